/-
  SkAb: PmB, PmC, PmO, PmS.
-/
import Derived.Test.YtifekejcbhllpaaGreatSkAa
import Derived.StillTailTactics

set_option linter.unusedVariables false

/-
  Calls of package pm that only read, and those that write one field or cell.
-/
namespace Go.Proofs.YtifekejcbhllpaaGreat
open Go.RowKit

def reachE (D : DevS) (there : Bool) : Int := if D.off then 6 else if there then 0 else 3
theorem reach_any (a : DevA) (D : DevS) (there : Bool) (w : World) (h : DevIs w a D) : Calls Tryz.prog 149 #[.pointer (some ⟨a.bd, 0, none⟩), .bool there] w fun e w' => e = .returned (.int .i64 (reachE D there)) ∧ w = w' := by
  have c5 := h.c5
  clear h
  unfold reachE
  obtain ⟨off, hoff⟩ : ∃ o, D.off = o := ⟨_, rfl⟩
  rw [hoff] at c5 ⊢
  clear hoff
  cases off with
  | true =>
    go_enter Tryz.func149, Tryz.ntmps149
    go_wp2
    go_ret
    exact ⟨rfl, rfl⟩
  | false =>
    cases there with
    | true =>
      go_enter Tryz.func149, Tryz.ntmps149
      go_wp2
      go_ret
      exact ⟨rfl, rfl⟩
    | false =>
      go_enter Tryz.func149, Tryz.ntmps149
      go_wp2
      go_ret
      exact ⟨rfl, rfl⟩

theorem media_in (a : DevA) (D : DevS) (i : Nat) (w : World) (h : DevIs w a D) (hi : i < 8 * D.n) : Calls Tryz.prog 120 #[.pointer (some ⟨a.bd, 0, none⟩), .int .i64 i] w fun e w' => e = .returned (.int .u64 (D.med i : Int)) ∧ w = w' := by
  have hh := hasWord_any a D w h i
  have hn := h.ok.hi
  have c0 := h.c0
  have m := h.medAt hi
  rw [decide_eq_true (by omega)] at hh
  have H := Lib.hid hh
  clear hh h
  generalize D.n = n at *
  go_enter Tryz.func120, Tryz.ntmps120
  go_wp2_with (refine H.out.mono ?_; rintro e w' ⟨rfl, rfl⟩)
  go_ret
  exact ⟨rfl, rfl⟩
/-! ### A field or a cell is written -/
section
variable {W : World} {a : DevA} {D : DevS}
theorem nd5 {a : DevA} (h : a.all.Nodup) : a.bd ≠ a.bm ∧ a.bd ≠ a.bb ∧ a.bd ≠ a.bw ∧ a.bd ≠ a.bg ∧ a.bm ≠ a.bb ∧ a.bm ≠ a.bw ∧ a.bm ≠ a.bg ∧ a.bb ≠ a.bw ∧ a.bb ≠ a.bg ∧ a.bw ≠ a.bg := by
  simp only [DevA.all, List.nodup_cons, List.mem_cons, List.not_mem_nil, or_false, not_or, List.nodup_nil, and_true, not_false_eq_true] at h
  obtain ⟨⟨h1, h2, h3, h4⟩, ⟨h5, h6, h7⟩, ⟨h8, h9⟩, h10⟩ := h
  exact ⟨h1, h2, h3, h4, h5, h6, h7, h8, h9, h10⟩
theorem grSet (W : World) (b i : Nat) (v : Value) : Gr [b] W (W.setCell ⟨b, i, none⟩ v) := (Gr.refl _ _).setCell (p := ⟨b, i, none⟩) (.inl (by simp)) _
theorem DevIs.setFuse (h : DevIs W a D) (x : Int) (h0 : 0 ≤ x) (h1 : x ≤ 9223372036854775807) : DevIs (W.setCell ⟨a.bd, 4, none⟩ (.int .i64 x)) a { D with fuse := x } := by
  obtain ⟨n1, n2, n3, n4, _⟩ := nd5 h.nd
  have g := grSet W a.bd 4 (.int .i64 x)
  exact ⟨h.head.set 4 _, h.med.gr g (by simpa using n1.symm), h.wear.gr g (by simpa using n3.symm), h.bad.gr g (by simpa using n4.symm), h.buf.gr g (by simpa using n2.symm), h.nd, ⟨h.ok.lo, h.ok.hi, h.ok.sup, h.ok.medB, h.ok.bufB, h0, h1⟩⟩
theorem DevIs.setOff (h : DevIs W a D) (x : Bool) : DevIs (W.setCell ⟨a.bd, 5, none⟩ (.bool x)) a { D with off := x } := by
  obtain ⟨n1, n2, n3, n4, _⟩ := nd5 h.nd
  have g := grSet W a.bd 5 (.bool x)
  exact ⟨h.head.set 5 _, h.med.gr g (by simpa using n1.symm), h.wear.gr g (by simpa using n3.symm), h.bad.gr g (by simpa using n4.symm), h.buf.gr g (by simpa using n2.symm), h.nd, ⟨h.ok.lo, h.ok.hi, h.ok.sup, h.ok.medB, h.ok.bufB, h.ok.fu⟩⟩
theorem DevIs.setCnt (h : DevIs W a D) (x : Nat) (hx : D.cnt ≤ x) : DevIs (W.setCell ⟨a.bd, 6, none⟩ (.int .i64 (x : Int))) a { D with cnt := x } := by
  obtain ⟨n1, n2, n3, n4, _⟩ := nd5 h.nd
  have g := grSet W a.bd 6 (.int .i64 (x : Int))
  exact ⟨h.head.set 6 _, h.med.gr g (by simpa using n1.symm), h.wear.gr g (by simpa using n3.symm), h.bad.gr g (by simpa using n4.symm), (h.buf.gr g (by simpa using n2.symm)).mono hx, h.nd, ⟨h.ok.lo, h.ok.hi, h.ok.sup, h.ok.medB, h.ok.bufB, h.ok.fu⟩⟩
theorem DevIs.setMed (h : DevIs W a D) (i : Nat) (x : Nat) (hx : x < 18446744073709551616) : DevIs (W.setCell ⟨a.bm, i, none⟩ (.int .u64 (x : Int))) a { D with med := fun j => if j = i then x else D.med j } := by
  obtain ⟨n1, _, _, _, n5, n6, n7, _⟩ := nd5 h.nd
  have g := grSet W a.bm i (.int .u64 (x : Int))
  have r := h.med.set i (.int .u64 (x : Int))
  rw [rowOf_set] at r
  refine ⟨h.head.gr g (by simpa using n1), ?_, h.wear.gr g (by simpa using n6.symm), h.bad.gr g (by simpa using n7.symm), h.buf.gr g (by simpa using n5.symm), h.nd, ⟨h.ok.lo, h.ok.hi, h.ok.sup, ?_, h.ok.bufB, h.ok.fu⟩⟩
  · have e : (fun j => if j = i then Value.int IntKind.u64 (x : Int) else Value.int IntKind.u64 (D.med j : Int)) = fun j => Value.int IntKind.u64 ((if j = i then x else D.med j : Nat) : Int) := by funext j; split <;> rfl
    rw [e] at r
    exact r
  · intro j
    show (if j = i then x else D.med j) < _
    split
    · exact hx
    · exact h.ok.medB j
theorem DevIs.setWear (h : DevIs W a D) (i : Nat) (x : Int) : DevIs (W.setCell ⟨a.bw, i, none⟩ (.int .i64 x)) a { D with wear := fun j => if j = i then x else D.wear j } := by
  obtain ⟨_, _, n3, _, _, n6, _, n8, _, n10⟩ := nd5 h.nd
  have g := grSet W a.bw i (.int .i64 x)
  have r := h.wear.set i (.int .i64 x)
  rw [rowOf_set] at r
  refine ⟨h.head.gr g (by simpa using n3), h.med.gr g (by simpa using n6), ?_, h.bad.gr g (by simpa using n10.symm), h.buf.gr g (by simpa using n8), h.nd, ⟨h.ok.lo, h.ok.hi, h.ok.sup, h.ok.medB, h.ok.bufB, h.ok.fu⟩⟩
  have e : (fun j => if j = i then Value.int IntKind.i64 x else Value.int IntKind.i64 (D.wear j)) = fun j => Value.int IntKind.i64 (if j = i then x else D.wear j) := by funext j; split <;> rfl
  rw [e] at r
  exact r
theorem DevIs.setBuf {W' : World} {f : Int → Option (Nat × Bool)} (h : DevIs W a D) (m : MapZ cellE 3 W' a.bb D.cnt f) (g : Gr [a.bb] W W') (hs : ∀ z, f z ≠ none → 0 ≤ z ∧ z < 8 * D.n) (hb : ∀ z p, f z = some p → p.1 < 18446744073709551616) : DevIs W' a { D with buf := f } := by
  obtain ⟨_, n2, _, _, n5, _, _, n8, n9, _⟩ := nd5 h.nd
  exact ⟨h.head.gr g (by simpa using n2), h.med.gr g (by simpa using n5), h.wear.gr g (by simpa using n8.symm), h.bad.gr g (by simpa using n9.symm), m, h.nd, ⟨h.ok.lo, h.ok.hi, hs, h.ok.medB, hb, h.ok.fu⟩⟩
end

end Go.Proofs.YtifekejcbhllpaaGreat

/-
  pm.Load; pm.New.
-/
namespace Go.Proofs.YtifekejcbhllpaaGreat
open Go.RowKit

theorem undInt : Tryz.prog.underlying 3 = some (.int .i64) := Tryz.underlying3
/-- What a word reads as. -/
def loadV (D : DevS) (i : Nat) : Nat := match D.buf i with | some p => p.1 | none => D.med i

theorem load_err (a : DevA) (D : DevS) (z : Int) (w : World) (h : DevIs w a D) (he : reachE D (decide (0 ≤ z ∧ z < 8 * D.n)) ≠ 0) :
    Calls Tryz.prog 121 #[.pointer (some ⟨a.bd, 0, none⟩), .int .i64 z] w fun e w' => e = .returned (.tuple #[.int .u64 0, .int .i64 (reachE D (decide (0 ≤ z ∧ z < 8 * D.n)))]) ∧ w = w' := by
  have H1 := Lib.hid (hasWord_any a D w h z)
  have H2 := Lib.hid (fun t => reach_any a D t w h)
  generalize decide (0 ≤ z ∧ z < 8 * D.n) = t at *
  have HR := H2.out t
  obtain ⟨e0, he0⟩ : ∃ e0, reachE D t = e0 := ⟨_, rfl⟩
  rw [he0] at he HR ⊢
  have H3 := Lib.hid HR
  have hd : (e0 == 0) = false := by simpa using he
  clear HR h he0 H2
  go_enter Tryz.func121, Tryz.ntmps121
  go_wp2_with fail
  refine H1.out.mono ?_
  rintro e w' ⟨rfl, rfl⟩
  go_wp2_with fail
  refine H3.out.mono ?_
  rintro e w' ⟨rfl, rfl⟩
  go_wp2_with fail
  go_ret2
  exact ⟨rfl, rfl⟩
set_option maxHeartbeats 1000000 in
theorem load_ok (a : DevA) (D : DevS) (i : Nat) (w : World) (h : DevIs w a D) (hoff : D.off = false) (hi : i < 8 * D.n) :
    Calls Tryz.prog 121 #[.pointer (some ⟨a.bd, 0, none⟩), .int .i64 i] w fun e w' => e = .returned (.tuple #[.int .u64 (loadV D i : Int), .int .i64 0]) ∧ Gr [] w w' := by
  have H1 := Lib.hid (hasWord_any a D w h i)
  have hr := reach_any a D (decide (0 ≤ (i : Int) ∧ (i : Int) < 8 * D.n)) w h
  have e0 : reachE D (decide (0 ≤ (i : Int) ∧ (i : Int) < 8 * D.n)) = 0 := by
    unfold reachE
    rw [hoff, decide_eq_true (by omega)]
    rfl
  rw [e0] at hr
  have H2 := Lib.hid hr
  clear hr e0
  have c0 := h.c0
  have c1 := h.c1
  have hm := h.medAt hi
  have hn := h.ok.hi
  have hlt : a.bd < w.heap.size := h.lt _ (by simp [DevA.all])
  have hlt2 : a.bm < w.heap.size := h.lt _ (by simp [DevA.all])
  have HB := Lib.hid h.buf
  have hwz : WfZ (i : Int) := wfZ (by omega) (by omega)
  have HW := Lib.hid hwz
  clear h hwz hoff
  generalize decide (0 ≤ (i : Int) ∧ (i : Int) < 8 * D.n) = t at *
  obtain ⟨n, hn'⟩ : ∃ n, D.n = n := ⟨_, rfl⟩
  rw [hn'] at c0 hi hn
  clear hn'
  cases hb : D.buf (i : Int) with
  | some p =>
    obtain ⟨v, f⟩ := p
    have HL := Lib.hid (show loadV D i = v by unfold loadV; rw [hb])
    have HV := Lib.hid (show Value.tuple #[cellE.val ((D.buf (i : Int)).getD cellE.zero), .bool (D.buf (i : Int)).isSome] = .tuple #[.agg #[.int .u64 (v : Int), .bool f], .bool true] by rw [hb]; rfl)
    clear hb
    go_enter Tryz.func121, Tryz.ntmps121
    go_wp2_with fail
    refine H1.out.mono ?_
    rintro e w' ⟨rfl, rfl⟩
    go_wp2_with fail
    refine H2.out.mono ?_
    rintro e w' ⟨rfl, rfl⟩
    go_wp2_with (at_lookup; refine wp_lookZ_oks rfl _ _ rfl rfl HB.out undInt Tryz.underlying108 (i : Int) rfl HW.out _ HV.out ?_)
    go_ret2
    exact ⟨by rw [HL.out] <;> rfl, (Gr.refl _ _).alloc _⟩
  | none =>
    have HL := Lib.hid (show loadV D i = D.med i by unfold loadV; rw [hb])
    have HV := Lib.hid (show Value.tuple #[cellE.val ((D.buf (i : Int)).getD cellE.zero), .bool (D.buf (i : Int)).isSome] = .tuple #[.agg #[.int .u64 0, .bool false], .bool false] by rw [hb]; rfl)
    clear hb
    go_enter Tryz.func121, Tryz.ntmps121
    go_wp2_with fail
    refine H1.out.mono ?_
    rintro e w' ⟨rfl, rfl⟩
    go_wp2_with fail
    refine H2.out.mono ?_
    rintro e w' ⟨rfl, rfl⟩
    go_wp2_with (at_lookup; refine wp_lookZ_oks rfl _ _ rfl rfl HB.out undInt Tryz.underlying108 (i : Int) rfl HW.out _ HV.out ?_)
    go_ret2
    exact ⟨by rw [HL.out] <;> rfl, (Gr.refl _ _).alloc _⟩


end Go.Proofs.YtifekejcbhllpaaGreat

/-
  pm: operate.
-/
namespace Go.Proofs.YtifekejcbhllpaaGreat
open Go.RowKit

theorem operate_err (a : DevA) (D : DevS) (t : Bool) (g : Value) (w : World) (h : DevIs w a D) (he : reachE D t ≠ 0) :
    Calls Tryz.prog 167 #[.pointer (some ⟨a.bd, 0, none⟩), .bool t, g] w fun e w' => e = .returned (.int .i64 (reachE D t)) ∧ w = w' := by
  have HR := reach_any a D t w h
  obtain ⟨e0, he0⟩ : ∃ e0, reachE D t = e0 := ⟨_, rfl⟩
  rw [he0] at he HR ⊢
  have H3 := Lib.hid HR
  have hd : (e0 == 0) = false := by simpa using he
  clear HR h he0
  go_enter Tryz.func167, Tryz.ntmps167
  go_wp2_with fail
  refine H3.out.mono ?_
  rintro e w' ⟨rfl, rfl⟩
  go_wp2_with fail
  go_ret
  exact ⟨rfl, rfl⟩
theorem operate_fuse (a : DevA) (D : DevS) (t : Bool) (g : Value) (w : World) (h : DevIs w a D) (he : reachE D t = 0) (hf : D.fuse = 1) :
    Calls Tryz.prog 167 #[.pointer (some ⟨a.bd, 0, none⟩), .bool t, g] w fun e w' => e = .returned (.int .i64 6) ∧ DevIs w' a { D with fuse := 0, off := true } ∧ Gr [a.bd] w w' := by
  have HR := reach_any a D t w h
  rw [he] at HR
  have H3 := Lib.hid HR
  have c4 := h.c4
  rw [hf] at c4
  have c5 := h.c5
  have f4 := h.fr 4
  have f5 := h.fr 5
  have RR := Lib.hid (And.intro ((h.setFuse 0 (by omega) (by omega)).setOff true) ((grSet w a.bd 4 (.int .i64 0)).trans (grSet _ a.bd 5 (.bool true))))
  clear HR h he hf
  go_enter Tryz.func167, Tryz.ntmps167
  go_wp2_with fail
  refine H3.out.mono ?_
  rintro e w' ⟨rfl, rfl⟩
  go_wp2_with fail
  go_ret
  exact ⟨rfl, RR.out.1, RR.out.2⟩

/-- Behind the fuse. -/
def lit (D : DevS) : DevS := { D with fuse := if 1 < D.fuse then D.fuse - 1 else D.fuse }
/-- What an operation's own part leaves: the count's cell is as it was, and with the count raised it is a device. -/
def Did (a : DevA) (D D2 : DevS) (W W' : World) : Prop :=
  W'.cell? ⟨a.bd, 6, none⟩ = some (.int .i64 (D.cnt : Int)) ∧ W'.frozen? ⟨a.bd, 6, none⟩ = false ∧ DevIs (W'.setCell ⟨a.bd, 6, none⟩ (.int .i64 ((D.cnt : Int) + 1))) a D2 ∧ Gr a.all W W'

set_option maxHeartbeats 1000000 in
theorem operate_store (a : DevA) (D D2 : DevS) (p0 p1 p2 : Nat) (w : World) (h : DevIs w a D) (he : reachE D true = 0) (hf : D.fuse ≠ 1) (hc : D.cnt < 4611686018427387904)
    (hdo : ∀ W, Gr a.all w W → DevIs W a (lit D) → Calls Tryz.prog 168 #[.pointer (some ⟨p0, 0, none⟩), .pointer (some ⟨p1, 0, none⟩), .pointer (some ⟨p2, 0, none⟩)] W fun e W' => e = .returned (.tuple #[]) ∧ Did a (lit D) D2 W W') :
    Calls Tryz.prog 167 #[.pointer (some ⟨a.bd, 0, none⟩), .bool true, .func (.func 168) #[] #[.pointer (some ⟨p0, 0, none⟩), .pointer (some ⟨p1, 0, none⟩), .pointer (some ⟨p2, 0, none⟩)]] w fun e w' => e = .returned (.int .i64 0) ∧ DevIs w' a D2 ∧ Gr a.all w w' := by
  have HR := reach_any a D true w h
  rw [he] at HR
  have H3 := Lib.hid HR
  have c4 := h.c4
  have f4 := h.fr 4
  have hfu := h.ok.fu
  have hd : (D.fuse == 1) = false := by simpa using hf
  have HD := Lib.hid hdo
  have H := Lib.hid h
  have hcc : (lit D).cnt = D.cnt := rfl
  clear HR hdo he
  by_cases h1 : 1 < D.fuse
  · have hl : lit D = { D with fuse := D.fuse - 1 } := by unfold lit; rw [if_pos h1]
    have RR := h.setFuse (D.fuse - 1) (by omega) (by omega)
    rw [← hl] at RR
    have HX := Lib.hid (And.intro RR ((grSet w a.bd 4 (.int .i64 (D.fuse - 1))).mono (cs := a.all) (fun b hb => by simp at hb; subst hb; simp [DevA.all])))
    have hcx := Lib.hid hcc
    clear RR h hl hcc
    go_enter Tryz.func167, Tryz.ntmps167
    go_wp2_with fail
    refine H3.out.mono ?_
    rintro e w' ⟨rfl, rfl⟩
    go_wp2_with fail
    refine (HD.out _ HX.out.2 HX.out.1).mono ?_
    rintro e w2 ⟨rfl, c6, f6, d2, g2⟩
    have HY := Lib.hid (And.intro d2 ((HX.out.2.trans g2).trans ((grSet w2 a.bd 6 (.int .i64 (((lit D).cnt : Int) + 1))).mono (cs := a.all) (fun b hb => by simp at hb; subst hb; simp [DevA.all]))))
    rw [hcx.out] at c6 HY
    clear d2 g2 HX
    go_wp2_with fail
    go_ret
    exact ⟨rfl, HY.out.1, HY.out.2⟩
  · have hl : lit D = D := by unfold lit; rw [if_neg h1]
    have HX := Lib.hid (And.intro (show DevIs w a (lit D) by rw [hl]; exact h) (Gr.refl a.all w))
    have hcx := Lib.hid hcc
    have hd2 : decide (1 < D.fuse) = false := by simpa using h1
    clear h hl hcc
    go_enter Tryz.func167, Tryz.ntmps167
    go_wp2_with fail
    refine H3.out.mono ?_
    rintro e w' ⟨rfl, rfl⟩
    go_wp2_with fail
    refine (HD.out _ HX.out.2 HX.out.1).mono ?_
    rintro e w2 ⟨rfl, c6, f6, d2, g2⟩
    have HY := Lib.hid (And.intro d2 ((HX.out.2.trans g2).trans ((grSet w2 a.bd 6 (.int .i64 (((lit D).cnt : Int) + 1))).mono (cs := a.all) (fun b hb => by simp at hb; subst hb; simp [DevA.all]))))
    rw [hcx.out] at c6 HY
    clear d2 g2 HX
    go_wp2_with fail
    go_ret
    exact ⟨rfl, HY.out.1, HY.out.2⟩

set_option maxHeartbeats 1000000 in
theorem operate_flush (a : DevA) (D D2 : DevS) (p0 p1 : Nat) (w : World) (h : DevIs w a D) (he : reachE D true = 0) (hf : D.fuse ≠ 1) (hc : D.cnt < 4611686018427387904)
    (hdo : ∀ W, Gr a.all w W → DevIs W a (lit D) → Calls Tryz.prog 169 #[.pointer (some ⟨p0, 0, none⟩), .pointer (some ⟨p1, 0, none⟩)] W fun e W' => e = .returned (.tuple #[]) ∧ Did a (lit D) D2 W W') :
    Calls Tryz.prog 167 #[.pointer (some ⟨a.bd, 0, none⟩), .bool true, .func (.func 169) #[] #[.pointer (some ⟨p0, 0, none⟩), .pointer (some ⟨p1, 0, none⟩)]] w fun e w' => e = .returned (.int .i64 0) ∧ DevIs w' a D2 ∧ Gr a.all w w' := by
  have HR := reach_any a D true w h
  rw [he] at HR
  have H3 := Lib.hid HR
  have c4 := h.c4
  have f4 := h.fr 4
  have hfu := h.ok.fu
  have hd : (D.fuse == 1) = false := by simpa using hf
  have HD := Lib.hid hdo
  have H := Lib.hid h
  have hcc : (lit D).cnt = D.cnt := rfl
  clear HR hdo he
  by_cases h1 : 1 < D.fuse
  · have hl : lit D = { D with fuse := D.fuse - 1 } := by unfold lit; rw [if_pos h1]
    have RR := h.setFuse (D.fuse - 1) (by omega) (by omega)
    rw [← hl] at RR
    have HX := Lib.hid (And.intro RR ((grSet w a.bd 4 (.int .i64 (D.fuse - 1))).mono (cs := a.all) (fun b hb => by simp at hb; subst hb; simp [DevA.all])))
    have hcx := Lib.hid hcc
    clear RR h hl hcc
    go_enter Tryz.func167, Tryz.ntmps167
    go_wp2_with fail
    refine H3.out.mono ?_
    rintro e w' ⟨rfl, rfl⟩
    go_wp2_with fail
    refine (HD.out _ HX.out.2 HX.out.1).mono ?_
    rintro e w2 ⟨rfl, c6, f6, d2, g2⟩
    have HY := Lib.hid (And.intro d2 ((HX.out.2.trans g2).trans ((grSet w2 a.bd 6 (.int .i64 (((lit D).cnt : Int) + 1))).mono (cs := a.all) (fun b hb => by simp at hb; subst hb; simp [DevA.all]))))
    rw [hcx.out] at c6 HY
    clear d2 g2 HX
    go_wp2_with fail
    go_ret
    exact ⟨rfl, HY.out.1, HY.out.2⟩
  · have hl : lit D = D := by unfold lit; rw [if_neg h1]
    have HX := Lib.hid (And.intro (show DevIs w a (lit D) by rw [hl]; exact h) (Gr.refl a.all w))
    have hcx := Lib.hid hcc
    have hd2 : decide (1 < D.fuse) = false := by simpa using h1
    clear h hl hcc
    go_enter Tryz.func167, Tryz.ntmps167
    go_wp2_with fail
    refine H3.out.mono ?_
    rintro e w' ⟨rfl, rfl⟩
    go_wp2_with fail
    refine (HD.out _ HX.out.2 HX.out.1).mono ?_
    rintro e w2 ⟨rfl, c6, f6, d2, g2⟩
    have HY := Lib.hid (And.intro d2 ((HX.out.2.trans g2).trans ((grSet w2 a.bd 6 (.int .i64 (((lit D).cnt : Int) + 1))).mono (cs := a.all) (fun b hb => by simp at hb; subst hb; simp [DevA.all]))))
    rw [hcx.out] at c6 HY
    clear d2 g2 HX
    go_wp2_with fail
    go_ret
    exact ⟨rfl, HY.out.1, HY.out.2⟩

set_option maxHeartbeats 1000000 in
theorem operate_fence (a : DevA) (D D2 : DevS) (p0 : Nat) (w : World) (h : DevIs w a D) (he : reachE D true = 0) (hf : D.fuse ≠ 1) (hc : D.cnt < 4611686018427387904)
    (hdo : ∀ W, Gr a.all w W → DevIs W a (lit D) → Calls Tryz.prog 170 #[.pointer (some ⟨p0, 0, none⟩)] W fun e W' => e = .returned (.tuple #[]) ∧ Did a (lit D) D2 W W') :
    Calls Tryz.prog 167 #[.pointer (some ⟨a.bd, 0, none⟩), .bool true, .func (.func 170) #[] #[.pointer (some ⟨p0, 0, none⟩)]] w fun e w' => e = .returned (.int .i64 0) ∧ DevIs w' a D2 ∧ Gr a.all w w' := by
  have HR := reach_any a D true w h
  rw [he] at HR
  have H3 := Lib.hid HR
  have c4 := h.c4
  have f4 := h.fr 4
  have hfu := h.ok.fu
  have hd : (D.fuse == 1) = false := by simpa using hf
  have HD := Lib.hid hdo
  have H := Lib.hid h
  have hcc : (lit D).cnt = D.cnt := rfl
  clear HR hdo he
  by_cases h1 : 1 < D.fuse
  · have hl : lit D = { D with fuse := D.fuse - 1 } := by unfold lit; rw [if_pos h1]
    have RR := h.setFuse (D.fuse - 1) (by omega) (by omega)
    rw [← hl] at RR
    have HX := Lib.hid (And.intro RR ((grSet w a.bd 4 (.int .i64 (D.fuse - 1))).mono (cs := a.all) (fun b hb => by simp at hb; subst hb; simp [DevA.all])))
    have hcx := Lib.hid hcc
    clear RR h hl hcc
    go_enter Tryz.func167, Tryz.ntmps167
    go_wp2_with fail
    refine H3.out.mono ?_
    rintro e w' ⟨rfl, rfl⟩
    go_wp2_with fail
    refine (HD.out _ HX.out.2 HX.out.1).mono ?_
    rintro e w2 ⟨rfl, c6, f6, d2, g2⟩
    have HY := Lib.hid (And.intro d2 ((HX.out.2.trans g2).trans ((grSet w2 a.bd 6 (.int .i64 (((lit D).cnt : Int) + 1))).mono (cs := a.all) (fun b hb => by simp at hb; subst hb; simp [DevA.all]))))
    rw [hcx.out] at c6 HY
    clear d2 g2 HX
    go_wp2_with fail
    go_ret
    exact ⟨rfl, HY.out.1, HY.out.2⟩
  · have hl : lit D = D := by unfold lit; rw [if_neg h1]
    have HX := Lib.hid (And.intro (show DevIs w a (lit D) by rw [hl]; exact h) (Gr.refl a.all w))
    have hcx := Lib.hid hcc
    have hd2 : decide (1 < D.fuse) = false := by simpa using h1
    clear h hl hcc
    go_enter Tryz.func167, Tryz.ntmps167
    go_wp2_with fail
    refine H3.out.mono ?_
    rintro e w' ⟨rfl, rfl⟩
    go_wp2_with fail
    refine (HD.out _ HX.out.2 HX.out.1).mono ?_
    rintro e w2 ⟨rfl, c6, f6, d2, g2⟩
    have HY := Lib.hid (And.intro d2 ((HX.out.2.trans g2).trans ((grSet w2 a.bd 6 (.int .i64 (((lit D).cnt : Int) + 1))).mono (cs := a.all) (fun b hb => by simp at hb; subst hb; simp [DevA.all]))))
    rw [hcx.out] at c6 HY
    clear d2 g2 HX
    go_wp2_with fail
    go_ret
    exact ⟨rfl, HY.out.1, HY.out.2⟩

end Go.Proofs.YtifekejcbhllpaaGreat

/-
  pm.Store.
-/
namespace Go.Proofs.YtifekejcbhllpaaGreat
open Go.RowKit

theorem undMap : Tryz.prog.underlying 108 = some (.map 3 150) := Tryz.underlying108
/-- The buffer is another one, and one thing more was done. -/
def withBuf (D : DevS) (f : Int → Option (Nat × Bool)) : DevS := { D with buf := f, cnt := D.cnt + 1 }
theorem Did.ofBuf {a : DevA} {D : DevS} {W W' : World} {f : Int → Option (Nat × Bool)} (h : DevIs W a D) (m : MapZ cellE 3 W' a.bb (D.cnt + 1) f) (g : Gr [a.bb] W W') (hs : ∀ z, f z ≠ none → 0 ≤ z ∧ z < 8 * D.n) (hb : ∀ z p, f z = some p → p.1 < 18446744073709551616) : Did a D (withBuf D f) W W' := by
  obtain ⟨n1, n2, n3, n4, n5, n6, n7, n8, n9, n10⟩ := nd5 h.nd
  have hd := h.head.gr g (by simpa using n2)
  have g6 := grSet W' a.bd 6 (.int .i64 ((D.cnt : Int) + 1))
  refine ⟨hd.cell 6, hd.frozen 6, ⟨?_, (h.med.gr g (by simpa using n5)).gr g6 (by simpa using n1.symm), (h.wear.gr g (by simpa using n8.symm)).gr g6 (by simpa using n3.symm), (h.bad.gr g (by simpa using n9.symm)).gr g6 (by simpa using n4.symm), m.gr g6 (by simpa using n2.symm), h.nd, ⟨h.ok.lo, h.ok.hi, hs, h.ok.medB, hb, h.ok.fu⟩⟩, g.mono fun b q => by simp at q; subst q; simp [DevA.all]⟩
  have r := hd.set 6 (.int .i64 ((D.cnt : Int) + 1))
  have e : headOf a (withBuf D f) = (headOf a D).setIfInBounds 6 (.int .i64 ((D.cnt : Int) + 1)) := by
    unfold headOf withBuf
    simp
  rw [e]
  exact r

set_option maxHeartbeats 1000000 in
set_option maxRecDepth 20000 in
theorem store1 (a : DevA) (D : DevS) (p0 p1 p2 i v : Nat) (W : World) (h : DevIs W a D) (c0 : W.cell? ⟨p0, 0, none⟩ = some (.int .u64 (v : Int))) (c1 : W.cell? ⟨p1, 0, none⟩ = some (.pointer (some ⟨a.bd, 0, none⟩))) (c2 : W.cell? ⟨p2, 0, none⟩ = some (.int .i64 (i : Int)))
    (hi : i < 8 * D.n) (hv : v < 18446744073709551616) (hc : D.cnt < 4611686018427387904) :
    Calls Tryz.prog 168 #[.pointer (some ⟨p0, 0, none⟩), .pointer (some ⟨p1, 0, none⟩), .pointer (some ⟨p2, 0, none⟩)] W fun e W' => e = .returned (.tuple #[]) ∧ Did a D (withBuf D (updZ D.buf (i : Int) (some (v, false)))) W W' := by
  have d1 := h.c1
  have H := Lib.hid h
  have hn := h.ok.hi
  have hwz : WfZ (i : Int) := wfZ (by omega) (by omega)
  have HW := Lib.hid hwz
  have HV := Lib.hid hv
  have HI := Lib.hid hi
  clear h hwz hv
  go_enter Tryz.func168, Tryz.ntmps168
  go_wp2_with fail
  go_still_tail 7, (by kernel_rfl)
  have HB := Lib.hid (H.out.buf.gr0 ((Gr.refl [] W).drew))
  go_wp2_with (at_mapUpdate; refine wp_putZ rfl _ _ _ rfl rfl HB.out (by unfold maxLen; omega) undInt undMap (i : Int) rfl HW.out (v, false) rfl ?_; intro w2 hm hg hs)
  have HD := Lib.hid (Did.ofBuf H.out hm (((Gr.refl _ _).drew).trans hg) (by
      intro z hz
      unfold updZ at hz
      by_cases e : z = i
      · have := HI.out; omega
      · rw [if_neg e] at hz
        exact H.out.ok.sup z hz) (by
      intro z p hz
      unfold updZ at hz
      by_cases e : z = i
      · rw [if_pos e] at hz; cases hz; exact HV.out
      · rw [if_neg e] at hz
        exact H.out.ok.bufB z p hz))
  clear hm hg hs
  go_returns
  exact ⟨rfl, HD.out⟩

/-! ### Store -/
/-- What is asked of a thing that is done. -/
def opE (D : DevS) (t : Bool) : Int := if reachE D t ≠ 0 then reachE D t else if D.fuse = 1 then 6 else 0
/-- What becomes of the device, but for the operation's own part. -/
def opD (D : DevS) (t : Bool) (f : DevS → DevS) : DevS := if reachE D t ≠ 0 then D else if D.fuse = 1 then { D with fuse := 0, off := true } else f (lit D)
def storeF (z : Int) (v : Nat) (D : DevS) : DevS := withBuf D (updZ D.buf z (some (v, false)))
def isWord (D : DevS) (z : Int) : Bool := decide (0 ≤ z ∧ z < 8 * D.n)

theorem opE_err {D : DevS} {t : Bool} (h : reachE D t ≠ 0) : opE D t = reachE D t := by unfold opE; rw [if_pos h]
theorem opE_fuse {D : DevS} {t : Bool} (h : reachE D t = 0) (hf : D.fuse = 1) : opE D t = 6 := by unfold opE; rw [if_neg (by simp [h]), if_pos hf]
theorem opE_ok {D : DevS} {t : Bool} (h : reachE D t = 0) (hf : D.fuse ≠ 1) : opE D t = 0 := by unfold opE; rw [if_neg (by simp [h]), if_neg hf]
theorem opD_err {D : DevS} {t : Bool} {f : DevS → DevS} (h : reachE D t ≠ 0) : opD D t f = D := by unfold opD; rw [if_pos h]
theorem opD_fuse {D : DevS} {t : Bool} {f : DevS → DevS} (h : reachE D t = 0) (hf : D.fuse = 1) : opD D t f = { D with fuse := 0, off := true } := by unfold opD; rw [if_neg (by simp [h]), if_pos hf]
theorem opD_ok {D : DevS} {t : Bool} {f : DevS → DevS} (h : reachE D t = 0) (hf : D.fuse ≠ 1) : opD D t f = f (lit D) := by unfold opD; rw [if_neg (by simp [h]), if_neg hf]
theorem reach_there {D : DevS} {t : Bool} (h : reachE D t = 0) : t = true ∧ D.off = false := by
  unfold reachE at h
  cases ho : D.off <;> cases t <;> simp [ho] at h ⊢

set_option maxRecDepth 20000 in
set_option maxHeartbeats 1000000 in
theorem store_any (a : DevA) (D : DevS) (z : Int) (v : Nat) (w : World) (h : DevIs w a D) (hv : v < 18446744073709551616) (hc : D.cnt < 4611686018427387904) :
    Calls Tryz.prog 141 #[.pointer (some ⟨a.bd, 0, none⟩), .int .i64 z, .int .u64 v] w fun e w' => e = .returned (.int .i64 (opE D (isWord D z))) ∧ DevIs w' a (opD D (isWord D z) (storeF z v)) ∧ Gr a.all w w' := by
  have HV := Lib.hid hv
  clear hv
  go_enter Tryz.func141, Tryz.ntmps141
  go_wp2_with fail
  have X0 := ((Holds.new w #[.pointer (some ⟨a.bd, 0, none⟩)] 24).alloc (Obj.cells #[.int .i64 z] 3)).alloc (Obj.cells #[.int .u64 v] 22)
  have X1 := (Holds.new (w.alloc (Obj.cells #[.pointer (some ⟨a.bd, 0, none⟩)] 24)) #[.int .i64 z] 3).alloc (Obj.cells #[.int .u64 v] 22)
  have X2 := Holds.new ((w.alloc (Obj.cells #[.pointer (some ⟨a.bd, 0, none⟩)] 24)).alloc (Obj.cells #[.int .i64 z] 3)) #[.int .u64 v] 22
  rw [World.size_alloc] at X1
  rw [World.size_alloc, World.size_alloc] at X2
  have HG := Lib.hid ((((Gr.refl [] w).alloc (Obj.cells #[.pointer (some ⟨a.bd, 0, none⟩)] 24)).alloc (Obj.cells #[.int .i64 z] 3)).alloc (Obj.cells #[.int .u64 v] 22))
  generalize hwa : ((w.alloc (Obj.cells #[.pointer (some ⟨a.bd, 0, none⟩)] 24)).alloc (Obj.cells #[.int .i64 z] 3)).alloc (Obj.cells #[.int .u64 v] 22) = wa at *
  have k0 : wa.cell? ⟨w.heap.size, 0, none⟩ = some (.pointer (some ⟨a.bd, 0, none⟩)) := X0.cell 0
  have k1 : wa.cell? ⟨w.heap.size + 1, 0, none⟩ = some (.int .i64 z) := X1.cell 0
  have k2 : wa.cell? ⟨w.heap.size + 1 + 1, 0, none⟩ = some (.int .u64 v) := X2.cell 0
  clear hwa
  have HT := Lib.hid (h.gr0 HG.out.drew)
  have HW := Lib.hid (hasWord_any a D _ HT.out z)
  obtain ⟨t, ht⟩ : ∃ t, isWord D z = t := ⟨_, rfl⟩
  rw [show decide (0 ≤ z ∧ z < 8 * D.n) = t from ht] at HW
  have HTT := Lib.hid ht
  clear ht
  by_cases he : reachE D t = 0
  · by_cases hf : D.fuse = 1
    · have HE := Lib.hid (And.intro (opE_fuse he hf) (fun f => opD_fuse (f := f) he hf))
      have HO := Lib.hid (fun g W (q : DevIs W a D) => operate_fuse a D t g W q he hf)
      clear he hf X0 X1 X2 h
      go_still_tail 5, (by kernel_rfl)
      still_call (HW.out.mono fun _ _ q => ⟨q.1, q.2.symm⟩)
      repeat still_step
      refine wpStill_nil ?_
      go_wp2_with fail
      refine (HO.out _ _ HT.out).mono ?_
      rintro e w' ⟨rfl, d2, g2⟩
      have HR := Lib.hid (And.intro d2 ((HG.out.drew.of0.trans (g2.mono (cs := a.all) (fun b hb => by simp at hb; subst hb; simp [DevA.all])))))
      clear d2 g2
      go_wp2_with fail
      go_ret
      exact ⟨by rw [HTT.out, HE.out.1]; rfl, by rw [HTT.out, HE.out.2]; exact HR.out.1, HR.out.2⟩
    · obtain ⟨rfl, hoff⟩ := reach_there he
      have HE := Lib.hid (And.intro (opE_ok he hf) (fun f => opD_ok (f := f) he hf))
      have hz := of_decide_eq_true (show decide (0 ≤ z ∧ z < 8 * D.n) = true from HTT.out)
      obtain ⟨i, rfl⟩ := Int.eq_ofNat_of_zero_le hz.1
      have hlt := h.lt
      have na : ∀ k, w.heap.size ≤ k → k ∉ a.all := fun k hk hm => by have := hlt k hm; omega
      have HO := Lib.hid (operate_store a D (storeF (i : Int) v (lit D)) (w.heap.size + 1 + 1) w.heap.size (w.heap.size + 1) wa.drew HT.out he hf hc (fun W g d => by
        have e0 := (X0.drew.gr g (na _ (by omega))).cell 0
        have e1 := (X1.drew.gr g (na _ (by omega))).cell 0
        have e2 := (X2.drew.gr g (na _ (by omega))).cell 0
        exact store1 a (lit D) (w.heap.size + 1 + 1) w.heap.size (w.heap.size + 1) i v W d e2 e0 e1 (by have := hz.2; show i < 8 * D.n; omega) HV.out hc))
      clear he hf X0 X1 X2 h hoff hz hlt na
      go_still_tail 5, (by kernel_rfl)
      still_call (HW.out.mono fun _ _ q => ⟨q.1, q.2.symm⟩)
      repeat still_step
      refine wpStill_nil ?_
      go_wp2_with fail
      refine HO.out.mono ?_
      rintro e w' ⟨rfl, d2, g2⟩
      have HR := Lib.hid (And.intro d2 (HG.out.drew.of0.trans g2))
      clear d2 g2
      go_wp2_with fail
      go_ret
      exact ⟨by rw [HTT.out, HE.out.1]; rfl, by rw [HTT.out, HE.out.2]; exact HR.out.1, HR.out.2⟩
  · have HE := Lib.hid (And.intro (opE_err he) (fun f => opD_err (f := f) he))
    have HO := Lib.hid (fun g => operate_err a D t g _ HT.out he)
    clear he X0 X1 X2 h
    go_still_tail 5, (by kernel_rfl)
    still_call (HW.out.mono fun _ _ q => ⟨q.1, q.2.symm⟩)
    repeat still_step
    refine wpStill_nil ?_
    go_wp2_with fail
    refine (HO.out _).mono ?_
    rintro e w' ⟨rfl, rfl⟩
    go_wp2_with fail
    go_ret
    exact ⟨by rw [HTT.out, HE.out.1]; rfl, by rw [HTT.out, HE.out.2]; exact HT.out, HG.out.drew.of0⟩

end Go.Proofs.YtifekejcbhllpaaGreat
