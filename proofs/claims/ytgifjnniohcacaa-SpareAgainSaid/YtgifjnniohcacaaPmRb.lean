/-
  The reference of layer 3: begin, Load, Store, Flush.
-/
import Derived.Test.YtgifjnniohcacaaPmRa
import Derived.StillTailTactics
namespace Go.Proofs.Ytgifjnniohcacaa
open Go.RowKit

def reachR (R : RefC) (t : Bool) : Int := if R.off then 6 else if t then 0 else 3
def begE (R : RefC) (t : Bool) : Int := if reachR R t ≠ 0 then reachR R t else if R.fuse = 1 then 6 else 0
def litR (R : RefC) : RefC := { R with fuse := if 1 < R.fuse then R.fuse - 1 else R.fuse, cnt := R.cnt + 1 }
def begR (R : RefC) (t : Bool) : RefC := if reachR R t ≠ 0 then R else if R.fuse = 1 then { R with fuse := 0, off := true } else litR R

set_option maxRecDepth 20000 in
set_option maxHeartbeats 1000000 in
theorem rbegin_any (r : RefA) (R : RefC) (z o : Int) (w : World) (h : RefRow w r R) (hc : R.cnt < 4611686018427387904) (hf : 0 ≤ R.fuse ∧ R.fuse ≤ 9223372036854775807) :
    Calls Try.prog 95 #[.pointer (some ⟨r.rd, 0, none⟩), .int .i64 z, .int .i64 o] w fun e w' => e = .returned (.int .i64 (begE R (decide (0 ≤ z ∧ z < o)))) ∧ RefRow w' r (begR R (decide (0 ≤ z ∧ z < o))) ∧ Gr r.all w w' := by
  have c3 := h.c3
  have c4 := h.c4
  have c5 := h.c5
  have f3 := h.fr 3
  have f4 := h.fr 4
  have f5 := h.fr 5
  have H := Lib.hid h
  have hall : ∀ b ∈ [r.rd], b ∈ r.all := fun b hb => by simp at hb; subst hb; simp [RefA.all]
  have HA := Lib.hid hall
  clear h hall
  cases ho : R.off with
  | true =>
    rw [ho] at c4
    have HE := Lib.hid (show begE R (decide (0 ≤ z ∧ z < o)) = 6 ∧ begR R (decide (0 ≤ z ∧ z < o)) = R by unfold begE begR reachR; rw [ho]; exact ⟨rfl, rfl⟩)
    clear ho
    go_enter Try.func95, Try.ntmps95
    go_wp2
    go_ret
    rw [HE.out.1, HE.out.2]
    exact ⟨rfl, H.out, Gr.refl _ _⟩
  | false =>
    rw [ho] at c4
    by_cases h0 : 0 ≤ z
    · have d0 : decide (z < 0) = false := by simp; omega
      by_cases h1 : z < o
      · have d1 : decide (o ≤ z) = false := by simp; omega
        have ht : decide (0 ≤ z ∧ z < o) = true := by simp; omega
        rw [ht]
        clear ht h0 h1
        by_cases hf1 : R.fuse = 1
        · have HE := Lib.hid (show begE R true = 6 ∧ begR R true = { R with fuse := 0, off := true } by
            have hr : reachR R true = 0 := by unfold reachR; rw [ho]; rfl
            constructor <;> simp [begE, begR, hr, hf1])
          rw [hf1] at c3
          clear ho hf1 hf hc
          have f4b : (w.setCell ⟨r.rd, 3, none⟩ (.int .i64 0)).frozen? ⟨r.rd, 4, none⟩ = false := (H.out.setFuse 0).fr 4
          go_enter Try.func95, Try.ntmps95
          go_wp2
          go_ret
          rw [HE.out.1, HE.out.2]
          exact ⟨rfl, (H.out.setFuse 0).setOff true, ((grSet _ _ _ _).trans (grSet _ _ _ _)).mono HA.out⟩
        · have HE := Lib.hid (show begE R true = 0 ∧ begR R true = litR R by
            have hr : reachR R true = 0 := by unfold reachR; rw [ho]; rfl
            constructor <;> simp [begE, begR, hr, hf1])
          by_cases hf2 : 1 < R.fuse
          · have HE := Lib.hid (show begE R true = 0 ∧ begR R true = { R with fuse := R.fuse - 1, cnt := R.cnt + 1 } by rw [HE.out.1, HE.out.2]; unfold litR; rw [if_pos hf2]; exact ⟨rfl, rfl⟩)
            have H2 := (H.out.setFuse (R.fuse - 1))
            have c5b : (w.setCell ⟨r.rd, 3, none⟩ (.int .i64 (R.fuse - 1))).cell? ⟨r.rd, 5, none⟩ = some (.int .i64 (R.cnt : Int)) := H2.c5
            have H3 := Lib.hid (H2.setCnt (R.cnt + 1))
            have g3 := Lib.hid ((grSet w r.rd 3 (.int .i64 (R.fuse - 1))).trans (grSet _ r.rd 5 (.int .i64 ((R.cnt + 1 : Nat) : Int))))
            have e1 : (R.fuse == 1) = false := by simpa using hf1
            have e2 : decide (1 < R.fuse) = true := by simpa using hf2
            clear H2
            generalize R.fuse = x at *
            generalize R.cnt = q at *
            clear hf1 ho
            go_enter Try.func95, Try.ntmps95
            go_wp2
            go_ret
            rw [HE.out.1, HE.out.2]
            exact ⟨rfl, H3.out, g3.out.mono HA.out⟩
          · have HE := Lib.hid (show begE R true = 0 ∧ begR R true = { R with cnt := R.cnt + 1 } by rw [HE.out.1, HE.out.2]; unfold litR; rw [if_neg hf2]; exact ⟨rfl, rfl⟩)
            have H3 := Lib.hid (H.out.setCnt (R.cnt + 1))
            have g3 := Lib.hid (grSet w r.rd 5 (.int .i64 ((R.cnt + 1 : Nat) : Int)))
            have e1 : (R.fuse == 1) = false := by simpa using hf1
            have e2 : decide (1 < R.fuse) = false := by simpa using hf2
            generalize R.fuse = x at *
            generalize R.cnt = q at *
            clear hf1 ho
            go_enter Try.func95, Try.ntmps95
            go_wp2
            go_ret
            rw [HE.out.1, HE.out.2]
            exact ⟨rfl, H3.out, g3.out.mono HA.out⟩
      · have d1 : decide (o ≤ z) = true := by simp; omega
        have ht : decide (0 ≤ z ∧ z < o) = false := by simp; omega
        rw [ht]
        have HE := Lib.hid (show begE R false = 3 ∧ begR R false = R by unfold begE begR reachR; rw [ho]; exact ⟨rfl, rfl⟩)
        clear ho ht h0 h1
        go_enter Try.func95, Try.ntmps95
        go_wp2
        go_ret
        rw [HE.out.1, HE.out.2]
        exact ⟨rfl, H.out, Gr.refl _ _⟩
    · have d0 : decide (z < 0) = true := by simp; omega
      have ht : decide (0 ≤ z ∧ z < o) = false := by simp; omega
      rw [ht]
      have HE := Lib.hid (show begE R false = 3 ∧ begR R false = R by unfold begE begR reachR; rw [ho]; exact ⟨rfl, rfl⟩)
      clear ho ht h0
      go_enter Try.func95, Try.ntmps95
      go_wp2
      go_ret
      rw [HE.out.1, HE.out.2]
      exact ⟨rfl, H.out, Gr.refl _ _⟩

/-! ### Load -/
def loadR (R : RefC) (z : Int) : Int × Int := if R.off then (0, 6) else if 0 ≤ z ∧ z < 8 * R.n then (if (R.ws z.toNat).t then ((R.ws z.toNat).v : Int) else ((R.ws z.toNat).m : Int), 0) else (0, 3)
/-! ### Store -/
theorem begE_zero {R : RefC} {t : Bool} (h : begE R t = 0) : t = true ∧ begR R t = litR R := by
  unfold begE at h
  by_cases hr : reachR R t = 0
  · rw [if_neg (by simp [hr])] at h
    by_cases hf : R.fuse = 1
    · rw [if_pos hf] at h; cases h
    · refine ⟨?_, by unfold begR; rw [if_neg (by simp [hr]), if_neg hf]⟩
      unfold reachR at hr
      cases ho : R.off <;> cases t <;> simp [ho] at hr ⊢
  · rw [if_pos hr] at h; exact absurd h hr
def storeW (ws : Nat → WordS) (i v : Nat) : Nat → WordS := updW ws i { m := (ws i).m, t := true, v := v, f := false }
def storeR (R : RefC) (z : Int) (v : Nat) : RefC := if begE R (decide (0 ≤ z ∧ z < 8 * R.n)) = 0 then { litR R with ws := storeW R.ws z.toNat v } else begR R (decide (0 ≤ z ∧ z < 8 * R.n))
theorem updW_twice (ws : Nat → WordS) (i : Nat) (x y : WordS) : updW (updW ws i x) i y = updW ws i y := by
  funext j
  unfold updW
  split <;> rfl

set_option maxRecDepth 20000 in
set_option maxHeartbeats 1000000 in
theorem rstore_any (r : RefA) (R : RefC) (z : Int) (v : Nat) (w : World) (h : RefRow w r R) (hc : R.cnt < 4611686018427387904) (hf : 0 ≤ R.fuse ∧ R.fuse ≤ 9223372036854775807) :
    Calls Try.prog 81 #[.pointer (some ⟨r.rd, 0, none⟩), .int .i64 z, .int .u64 v] w fun e w' => e = .returned (.int .i64 (begE R (decide (0 ≤ z ∧ z < 8 * R.n)))) ∧ RefRow w' r (storeR R z v) ∧ Gr r.all w w' := by
  have c0 := h.c0
  have hn := h.hi
  have HB := Lib.hid (rbegin_any r R z (8 * R.n) w h hc hf)
  obtain ⟨t, ht⟩ : ∃ t, decide (0 ≤ z ∧ z < 8 * (R.n : Int)) = t := ⟨_, rfl⟩
  have HT := Lib.hid ht
  unfold storeR
  rw [ht] at HB ⊢
  clear ht
  have H := Lib.hid h
  obtain ⟨n, hn2⟩ : ∃ n, n = R.n := ⟨_, rfl⟩
  rw [← hn2] at c0 HB hn HT
  have HN2 := Lib.hid hn2
  clear h hn2 hc hf
  go_enter Try.func81, Try.ntmps81
  go_wp2_with fail
  refine HB.out.mono ?_
  rintro e w1 ⟨rfl, R1, g1⟩
  by_cases h0 : begE R t = 0
  · have HZ0 := Lib.hid h0
    rw [h0]
    obtain ⟨h1, h2⟩ := begE_zero h0
    subst h1
    rw [h2] at R1
    have hz : 0 ≤ z ∧ z < 8 * (n : Int) := by have := HT.out; simpa using this
    obtain ⟨i, rfl⟩ := Int.eq_ofNat_of_zero_le hz.1
    have hi : i < 8 * n := by omega
    have hnn : (litR R).n = n := HN2.out.symm
    have k0 := R1.c0
    rw [hnn] at k0
    have k1 := R1.setT i true
    have k2 := k1.setV i v
    have k3 := k2.setF i false
    have f1 := R1.wz (i * 4 + 1)
    have f2 := R1.wz (i * 4 + 2)
    have f3 := R1.wz (i * 4 + 3)
    have m1 := R1.wt (i := i) (by rw [hnn]; exact hi)
    have m2 := R1.wv (i := i) (by rw [hnn]; exact hi)
    have m3 := R1.wf (i := i) (by rw [hnn]; exact hi)
    have a0 := k1.c0
    have a1 := k2.c0
    rw [show ({ litR R with ws := updW (litR R).ws i { (litR R).ws i with t := true } } : RefC).n = n from hnn] at a0
    rw [show ({ ({ litR R with ws := updW (litR R).ws i { (litR R).ws i with t := true } } : RefC) with ws := updW (updW (litR R).ws i { (litR R).ws i with t := true }) i { (updW (litR R).ws i { (litR R).ws i with t := true }) i with v := v } } : RefC).n = n from hnn] at a1
    have HD := Lib.hid (And.intro k3 (g1.trans ((((grSet w1 r.rw (i * 4 + 1) (.bool true)).trans (grSet _ r.rw (i * 4 + 2) (.int .u64 (v : Int)))).trans (grSet _ r.rw (i * 4 + 3) (.bool false))).mono (cs := r.all) (fun b hb => by simp at hb; subst hb; simp [RefA.all]))))
    clear k1 k2 k3 R1 g1 h0 h2
    go_wp2
    go_ret
    refine ⟨by first | rfl | rw [HZ0.out], ?_, HD.out.2⟩
    have q := HD.out.1
    rw [updW_same, updW_twice, updW_same, updW_twice] at q
    first
      | exact q
      | (rw [if_pos HZ0.out, Int.toNat_natCast]; exact q)
      | (rw [Int.toNat_natCast]; exact q)
      | (have hn3 := HN2.out; subst hn3; exact q)
  · have HZ0 := Lib.hid h0
    have e1 : (begE R t == 0) = false := by simpa using h0
    have HD := Lib.hid (And.intro R1 g1)
    clear R1 g1 h0
    go_wp2
    go_ret
    exact ⟨rfl, by first | exact HD.out.1 | (rw [if_neg HZ0.out]; exact HD.out.1), HD.out.2⟩

end Go.Proofs.Ytgifjnniohcacaa
