/-
  pm: operate.
-/
import Derived.Test.YtgifjnniohcacaaPmC
namespace Go.Proofs.Ytgifjnniohcacaa
open Go.RowKit

theorem operate_nil (t : Bool) (g : Value) (w : World) : Calls Try.prog 86 #[.pointer none, .bool t, g] w fun e w' => e = .returned (.int .i64 1) ∧ w = w' := by
  go_enter Try.func86, Try.ntmps86
  go_wp2_with fail
  refine (reach_nil t _).mono ?_
  rintro e w' ⟨rfl, rfl⟩
  go_wp2_with fail
  go_ret
  exact ⟨rfl, rfl⟩
theorem operate_err (a : DevA) (D : DevS) (t : Bool) (g : Value) (w : World) (h : DevIs w a D) (he : reachE D t ≠ 0) :
    Calls Try.prog 86 #[.pointer (some ⟨a.bd, 0, none⟩), .bool t, g] w fun e w' => e = .returned (.int .i64 (reachE D t)) ∧ w = w' := by
  have HR := reach_any a D t w h
  obtain ⟨e0, he0⟩ : ∃ e0, reachE D t = e0 := ⟨_, rfl⟩
  rw [he0] at he HR ⊢
  have H3 := Lib.hid HR
  have hd : (e0 == 0) = false := by simpa using he
  clear HR h he0
  go_enter Try.func86, Try.ntmps86
  go_wp2_with fail
  refine H3.out.mono ?_
  rintro e w' ⟨rfl, rfl⟩
  go_wp2_with fail
  go_ret
  exact ⟨rfl, rfl⟩
theorem operate_fuse (a : DevA) (D : DevS) (t : Bool) (g : Value) (w : World) (h : DevIs w a D) (he : reachE D t = 0) (hf : D.fuse = 1) :
    Calls Try.prog 86 #[.pointer (some ⟨a.bd, 0, none⟩), .bool t, g] w fun e w' => e = .returned (.int .i64 6) ∧ DevIs w' a { D with fuse := 0, off := true } ∧ Gr [a.bd] w w' := by
  have HR := reach_any a D t w h
  rw [he] at HR
  have H3 := Lib.hid HR
  have c4 := h.c4
  rw [hf] at c4
  have c5 := h.c5
  have f4 := h.fr 4
  have f5 := h.fr 5
  have RR := Lib.hid (And.intro ((h.setFuse 0 (by omega) (by omega)).setOff true) ((grSet w a.bd 4 (.int .i64 0)).trans (grSet _ a.bd 5 (.bool true))))
  clear HR h he hf
  go_enter Try.func86, Try.ntmps86
  go_wp2_with fail
  refine H3.out.mono ?_
  rintro e w' ⟨rfl, rfl⟩
  go_wp2_with fail
  go_ret
  exact ⟨rfl, RR.out.1, RR.out.2⟩

/-- Behind the fuse. -/
def lit (D : DevS) : DevS := { D with fuse := if 1 < D.fuse then D.fuse - 1 else D.fuse }
/-- What an operation's own part leaves: the count's cell is as it was, and with the count raised it is a device. -/
def Did (a : DevA) (D D2 : DevS) (W W' : World) : Prop :=
  W'.cell? ⟨a.bd, 6, none⟩ = some (.int .i64 (D.cnt : Int)) ∧ W'.frozen? ⟨a.bd, 6, none⟩ = false ∧ DevIs (W'.setCell ⟨a.bd, 6, none⟩ (.int .i64 ((D.cnt : Int) + 1))) a D2 ∧ Gr a.all W W'

set_option maxHeartbeats 1000000 in
theorem operate_store (a : DevA) (D D2 : DevS) (p0 p1 p2 : Nat) (w : World) (h : DevIs w a D) (he : reachE D true = 0) (hf : D.fuse ≠ 1) (hc : D.cnt < 4611686018427387904)
    (hdo : ∀ W, Gr a.all w W → DevIs W a (lit D) → Calls Try.prog 87 #[.pointer (some ⟨p0, 0, none⟩), .pointer (some ⟨p1, 0, none⟩), .pointer (some ⟨p2, 0, none⟩)] W fun e W' => e = .returned (.tuple #[]) ∧ Did a (lit D) D2 W W') :
    Calls Try.prog 86 #[.pointer (some ⟨a.bd, 0, none⟩), .bool true, .func (.func 87) #[] #[.pointer (some ⟨p0, 0, none⟩), .pointer (some ⟨p1, 0, none⟩), .pointer (some ⟨p2, 0, none⟩)]] w fun e w' => e = .returned (.int .i64 0) ∧ DevIs w' a D2 ∧ Gr a.all w w' := by
  have HR := reach_any a D true w h
  rw [he] at HR
  have H3 := Lib.hid HR
  have c4 := h.c4
  have f4 := h.fr 4
  have hfu := h.ok.fu
  have hd : (D.fuse == 1) = false := by simpa using hf
  have HD := Lib.hid hdo
  have H := Lib.hid h
  have hcc : (lit D).cnt = D.cnt := rfl
  clear HR hdo he
  by_cases h1 : 1 < D.fuse
  · have hl : lit D = { D with fuse := D.fuse - 1 } := by unfold lit; rw [if_pos h1]
    have RR := h.setFuse (D.fuse - 1) (by omega) (by omega)
    rw [← hl] at RR
    have HX := Lib.hid (And.intro RR ((grSet w a.bd 4 (.int .i64 (D.fuse - 1))).mono (cs := a.all) (fun b hb => by simp at hb; subst hb; simp [DevA.all])))
    have hcx := Lib.hid hcc
    clear RR h hl hcc
    go_enter Try.func86, Try.ntmps86
    go_wp2_with fail
    refine H3.out.mono ?_
    rintro e w' ⟨rfl, rfl⟩
    go_wp2_with fail
    refine (HD.out _ HX.out.2 HX.out.1).mono ?_
    rintro e w2 ⟨rfl, c6, f6, d2, g2⟩
    have HY := Lib.hid (And.intro d2 ((HX.out.2.trans g2).trans ((grSet w2 a.bd 6 (.int .i64 (((lit D).cnt : Int) + 1))).mono (cs := a.all) (fun b hb => by simp at hb; subst hb; simp [DevA.all]))))
    rw [hcx.out] at c6 HY
    clear d2 g2 HX
    go_wp2_with fail
    go_ret
    exact ⟨rfl, HY.out.1, HY.out.2⟩
  · have hl : lit D = D := by unfold lit; rw [if_neg h1]
    have HX := Lib.hid (And.intro (show DevIs w a (lit D) by rw [hl]; exact h) (Gr.refl a.all w))
    have hcx := Lib.hid hcc
    have hd2 : decide (1 < D.fuse) = false := by simpa using h1
    clear h hl hcc
    go_enter Try.func86, Try.ntmps86
    go_wp2_with fail
    refine H3.out.mono ?_
    rintro e w' ⟨rfl, rfl⟩
    go_wp2_with fail
    refine (HD.out _ HX.out.2 HX.out.1).mono ?_
    rintro e w2 ⟨rfl, c6, f6, d2, g2⟩
    have HY := Lib.hid (And.intro d2 ((HX.out.2.trans g2).trans ((grSet w2 a.bd 6 (.int .i64 (((lit D).cnt : Int) + 1))).mono (cs := a.all) (fun b hb => by simp at hb; subst hb; simp [DevA.all]))))
    rw [hcx.out] at c6 HY
    clear d2 g2 HX
    go_wp2_with fail
    go_ret
    exact ⟨rfl, HY.out.1, HY.out.2⟩

set_option maxHeartbeats 1000000 in
theorem operate_flush (a : DevA) (D D2 : DevS) (p0 p1 : Nat) (w : World) (h : DevIs w a D) (he : reachE D true = 0) (hf : D.fuse ≠ 1) (hc : D.cnt < 4611686018427387904)
    (hdo : ∀ W, Gr a.all w W → DevIs W a (lit D) → Calls Try.prog 88 #[.pointer (some ⟨p0, 0, none⟩), .pointer (some ⟨p1, 0, none⟩)] W fun e W' => e = .returned (.tuple #[]) ∧ Did a (lit D) D2 W W') :
    Calls Try.prog 86 #[.pointer (some ⟨a.bd, 0, none⟩), .bool true, .func (.func 88) #[] #[.pointer (some ⟨p0, 0, none⟩), .pointer (some ⟨p1, 0, none⟩)]] w fun e w' => e = .returned (.int .i64 0) ∧ DevIs w' a D2 ∧ Gr a.all w w' := by
  have HR := reach_any a D true w h
  rw [he] at HR
  have H3 := Lib.hid HR
  have c4 := h.c4
  have f4 := h.fr 4
  have hfu := h.ok.fu
  have hd : (D.fuse == 1) = false := by simpa using hf
  have HD := Lib.hid hdo
  have H := Lib.hid h
  have hcc : (lit D).cnt = D.cnt := rfl
  clear HR hdo he
  by_cases h1 : 1 < D.fuse
  · have hl : lit D = { D with fuse := D.fuse - 1 } := by unfold lit; rw [if_pos h1]
    have RR := h.setFuse (D.fuse - 1) (by omega) (by omega)
    rw [← hl] at RR
    have HX := Lib.hid (And.intro RR ((grSet w a.bd 4 (.int .i64 (D.fuse - 1))).mono (cs := a.all) (fun b hb => by simp at hb; subst hb; simp [DevA.all])))
    have hcx := Lib.hid hcc
    clear RR h hl hcc
    go_enter Try.func86, Try.ntmps86
    go_wp2_with fail
    refine H3.out.mono ?_
    rintro e w' ⟨rfl, rfl⟩
    go_wp2_with fail
    refine (HD.out _ HX.out.2 HX.out.1).mono ?_
    rintro e w2 ⟨rfl, c6, f6, d2, g2⟩
    have HY := Lib.hid (And.intro d2 ((HX.out.2.trans g2).trans ((grSet w2 a.bd 6 (.int .i64 (((lit D).cnt : Int) + 1))).mono (cs := a.all) (fun b hb => by simp at hb; subst hb; simp [DevA.all]))))
    rw [hcx.out] at c6 HY
    clear d2 g2 HX
    go_wp2_with fail
    go_ret
    exact ⟨rfl, HY.out.1, HY.out.2⟩
  · have hl : lit D = D := by unfold lit; rw [if_neg h1]
    have HX := Lib.hid (And.intro (show DevIs w a (lit D) by rw [hl]; exact h) (Gr.refl a.all w))
    have hcx := Lib.hid hcc
    have hd2 : decide (1 < D.fuse) = false := by simpa using h1
    clear h hl hcc
    go_enter Try.func86, Try.ntmps86
    go_wp2_with fail
    refine H3.out.mono ?_
    rintro e w' ⟨rfl, rfl⟩
    go_wp2_with fail
    refine (HD.out _ HX.out.2 HX.out.1).mono ?_
    rintro e w2 ⟨rfl, c6, f6, d2, g2⟩
    have HY := Lib.hid (And.intro d2 ((HX.out.2.trans g2).trans ((grSet w2 a.bd 6 (.int .i64 (((lit D).cnt : Int) + 1))).mono (cs := a.all) (fun b hb => by simp at hb; subst hb; simp [DevA.all]))))
    rw [hcx.out] at c6 HY
    clear d2 g2 HX
    go_wp2_with fail
    go_ret
    exact ⟨rfl, HY.out.1, HY.out.2⟩

set_option maxHeartbeats 1000000 in
theorem operate_fence (a : DevA) (D D2 : DevS) (p0 : Nat) (w : World) (h : DevIs w a D) (he : reachE D true = 0) (hf : D.fuse ≠ 1) (hc : D.cnt < 4611686018427387904)
    (hdo : ∀ W, Gr a.all w W → DevIs W a (lit D) → Calls Try.prog 89 #[.pointer (some ⟨p0, 0, none⟩)] W fun e W' => e = .returned (.tuple #[]) ∧ Did a (lit D) D2 W W') :
    Calls Try.prog 86 #[.pointer (some ⟨a.bd, 0, none⟩), .bool true, .func (.func 89) #[] #[.pointer (some ⟨p0, 0, none⟩)]] w fun e w' => e = .returned (.int .i64 0) ∧ DevIs w' a D2 ∧ Gr a.all w w' := by
  have HR := reach_any a D true w h
  rw [he] at HR
  have H3 := Lib.hid HR
  have c4 := h.c4
  have f4 := h.fr 4
  have hfu := h.ok.fu
  have hd : (D.fuse == 1) = false := by simpa using hf
  have HD := Lib.hid hdo
  have H := Lib.hid h
  have hcc : (lit D).cnt = D.cnt := rfl
  clear HR hdo he
  by_cases h1 : 1 < D.fuse
  · have hl : lit D = { D with fuse := D.fuse - 1 } := by unfold lit; rw [if_pos h1]
    have RR := h.setFuse (D.fuse - 1) (by omega) (by omega)
    rw [← hl] at RR
    have HX := Lib.hid (And.intro RR ((grSet w a.bd 4 (.int .i64 (D.fuse - 1))).mono (cs := a.all) (fun b hb => by simp at hb; subst hb; simp [DevA.all])))
    have hcx := Lib.hid hcc
    clear RR h hl hcc
    go_enter Try.func86, Try.ntmps86
    go_wp2_with fail
    refine H3.out.mono ?_
    rintro e w' ⟨rfl, rfl⟩
    go_wp2_with fail
    refine (HD.out _ HX.out.2 HX.out.1).mono ?_
    rintro e w2 ⟨rfl, c6, f6, d2, g2⟩
    have HY := Lib.hid (And.intro d2 ((HX.out.2.trans g2).trans ((grSet w2 a.bd 6 (.int .i64 (((lit D).cnt : Int) + 1))).mono (cs := a.all) (fun b hb => by simp at hb; subst hb; simp [DevA.all]))))
    rw [hcx.out] at c6 HY
    clear d2 g2 HX
    go_wp2_with fail
    go_ret
    exact ⟨rfl, HY.out.1, HY.out.2⟩
  · have hl : lit D = D := by unfold lit; rw [if_neg h1]
    have HX := Lib.hid (And.intro (show DevIs w a (lit D) by rw [hl]; exact h) (Gr.refl a.all w))
    have hcx := Lib.hid hcc
    have hd2 : decide (1 < D.fuse) = false := by simpa using h1
    clear h hl hcc
    go_enter Try.func86, Try.ntmps86
    go_wp2_with fail
    refine H3.out.mono ?_
    rintro e w' ⟨rfl, rfl⟩
    go_wp2_with fail
    refine (HD.out _ HX.out.2 HX.out.1).mono ?_
    rintro e w2 ⟨rfl, c6, f6, d2, g2⟩
    have HY := Lib.hid (And.intro d2 ((HX.out.2.trans g2).trans ((grSet w2 a.bd 6 (.int .i64 (((lit D).cnt : Int) + 1))).mono (cs := a.all) (fun b hb => by simp at hb; subst hb; simp [DevA.all]))))
    rw [hcx.out] at c6 HY
    clear d2 g2 HX
    go_wp2_with fail
    go_ret
    exact ⟨rfl, HY.out.1, HY.out.2⟩

end Go.Proofs.Ytgifjnniohcacaa
