/-
  MgU: RgG, RgH.
-/
import Derived.Test.YtdgcninmpcmdcaaGreatMgT
import Derived.Test.YtdgcninmpcmdcaaGreatMgQ
import Derived.Test.YtdgcninmpcmdcaaGreatMgI

/-
  Layer 7, pure: a region on a device that is on and unbroken.
-/
namespace Go.Proofs.YtdgcninmpcmdcaaGreat
open Go.RowKit
set_option linter.unusedVariables false

/-- The device's line of the bank's line z. -/
def lnN (P : PlanR) (z : Int) : Nat := (P.a + tabZ (bankR P) + z).toNat
structure GdR (P : PlanR) (D : DevS) (j : Nat) : Prop where
  calm : Calm D
  bad : D.bad = fun _ => false
  fit : (bankR P).a + sizeZ (bankR P) ≤ (D.n : Int)
  mb : ∀ x, D.med x < 18446744073709551616
  reg : D.med (8 * lnN P ((P.l : Int) + 1)) = pkN P j
  tab : ∀ k : Nat, (k : Int) < P.s → D.med (8 * P.a.toNat + k) = 0
section
variable {P : PlanR} {D : DevS} {j : Nat}
theorem lnN_val (hP : OkR P) {z : Int} (hz : 0 ≤ z) : ((lnN P z : Nat) : Int) = P.a + tabZ (bankR P) + z := by
  obtain ⟨h1, h2, h3, h4, h5, h6⟩ := (okZ_iff (bankR P)).1 hP.ok
  have h1' : 0 ≤ P.a := h1
  have ht : 0 ≤ tabZ (bankR P) := by unfold tabZ; omega
  unfold lnN
  omega
theorem place0 (hP : OkR P) {z : Int} (hz : 0 ≤ z) : placeP (bankR P) B0 z = ((lnN P z : Nat) : Int) := by
  rw [lnN_val hP hz]
  rfl
theorem rg_nums (hP : OkR P) : 0 ≤ P.a ∧ 0 ≤ P.s ∧ P.s ≤ 64 ∧ 0 ≤ tabZ (bankR P) ∧ P.s ≤ 8 * tabZ (bankR P) ∧ sizeZ (bankR P) = tabZ (bankR P) + ((P.l : Int) + 2) + P.s := by
  obtain ⟨h1, h2, h3, h4, h5, h6⟩ := (okZ_iff (bankR P)).1 hP.ok
  refine ⟨h1, h5, h6, ?_, ?_, ?_⟩
  · unfold tabZ; omega
  · have : (bankR P).s = P.s := rfl
    unfold tabZ; omega
  · unfold sizeZ; rw [if_pos hP.ok]; rfl
/-- A whole line is written. -/
theorem gd_line (hP : OkR P) (G : GdR P D j) {z : Int} (h0 : 0 ≤ z) (h1 : z ≤ (P.l : Int)) {s : ByteArray} (hs : s.size = 64) :
    ∃ E, writeS (bankR P) z s D B0 = (0, E, B0) ∧ GdR P E j ∧ E.n = D.n ∧ (∀ k, k < 8 → E.med (8 * lnN P z + k) = wdL s.data.toList k) ∧ ∀ x, (x < 8 * lnN P z ∨ 8 * lnN P z + 8 ≤ x) → E.med x = D.med x := by
  obtain ⟨q1, q2, q3, q4, q5, q6⟩ := rg_nums hP
  have hf := G.fit
  have hln := lnN_val hP h0
  have hrl := lnN_val hP (z := (P.l : Int) + 1) (by omega)
  have ha : (bankR P).a = P.a := rfl
  obtain ⟨E, e1, e2⟩ := write_ok (p := bankR P) (B := B0) (i := z) (l := lnN P z) (s := s) G.calm ⟨h0, by show z < (P.l : Int) + 2; omega⟩ (place0 hP h0) (by omega) (by rw [G.bad]) hs
  have hm : ∀ x, (x < 8 * lnN P z ∨ 8 * lnN P z + 8 ≤ x) → E.med x = D.med x := fun x hx => by rw [e2.med, if_neg (by omega)]
  refine ⟨E, e1, ⟨e2.calm, by rw [e2.bad, G.bad], by rw [e2.n]; exact G.fit, fun x => ?_, by rw [hm _ (by omega)]; exact G.reg, fun k hk => by rw [hm _ (by omega)]; exact G.tab k hk⟩, e2.n, fun k hk => ?_, hm⟩
  · rw [e2.med]
    split
    · exact wdL_lt _ _
    · exact G.mb x
  · rw [e2.med, if_pos ⟨by omega, by omega, by rw [G.bad]⟩]
    congr 1
    omega
/-- A word is written. -/
theorem gd_word (hP : OkR P) (G : GdR P D j) {z : Int} (h0 : 0 ≤ z) (h1 : z ≤ (P.l : Int) + 1) {k v : Nat} (hk : k < 8) (hv : v < 18446744073709551616) :
    ∃ E, writeWordS (bankR P) z (k : Int) v D B0 = (0, E, B0) ∧ E.n = D.n ∧ Calm E ∧ E.bad = (fun _ => false) ∧ (∀ x, E.med x < 18446744073709551616) ∧ E.med (8 * lnN P z + k) = v ∧ ∀ x, x ≠ 8 * lnN P z + k → E.med x = D.med x := by
  obtain ⟨q1, q2, q3, q4, q5, q6⟩ := rg_nums hP
  have hf := G.fit
  have hln := lnN_val hP h0
  have ha : (bankR P).a = P.a := rfl
  have hin : inP (bankR P) z := ⟨h0, by show z < (P.l : Int) + 2; omega⟩
  obtain ⟨E, e1, e2⟩ := putword_calm (l := lnN P z) (k := k) (v := v) G.calm (by omega) hk
  have hm : ∀ x, x ≠ 8 * lnN P z + k → E.med x = D.med x := fun x hx => by rw [e2.med, if_neg (by omega)]
  have hv2 : E.med (8 * lnN P z + k) = v := by rw [e2.med, if_pos ⟨by omega, by omega, by rw [G.bad]⟩]
  refine ⟨E, ?_, e2.n, e2.calm, by rw [e2.bad, G.bad], fun x => ?_, hv2, hm⟩
  · have hlv : lineF D (lnN P z) = fun j => D.med (8 * lnN P z + j) := lineF_live ⟨G.calm.off, G.calm.buf⟩ _
    unfold writeWordS
    rw [if_neg (by omega), if_pos hin, G.calm.off, place0 hP h0, Int.toNat_natCast, Int.toNat_natCast, e1]
    simp only [ne_eq, not_true_eq_false, if_false, Bool.false_eq_true]
    unfold ensureS
    rw [took_of (by rw [e2.n]; omega) (textU_size _) (fun i hi => by
      rw [wd_textU (fun i => by unfold updF; split; exact hv; rw [hlv]; exact G.mb _) i hi, hlv]
      unfold updF
      split
      · rename_i c; rw [c]; exact hv2
      · rename_i c; exact hm _ (by omega))]
    rfl
  · by_cases c : x = 8 * lnN P z + k
    · rw [c, hv2]; exact hv
    · rw [hm x c]; exact G.mb x
/-- A line's word is written. -/
theorem gd_lword (hP : OkR P) (G : GdR P D j) {z : Int} (h0 : 0 ≤ z) (h1 : z ≤ (P.l : Int)) {k v : Nat} (hk : k < 8) (hv : v < 18446744073709551616) :
    ∃ E, writeWordS (bankR P) z (k : Int) v D B0 = (0, E, B0) ∧ GdR P E j ∧ E.n = D.n ∧ E.med (8 * lnN P z + k) = v ∧ ∀ x, x ≠ 8 * lnN P z + k → E.med x = D.med x := by
  obtain ⟨q1, q2, q3, q4, q5, q6⟩ := rg_nums hP
  have hln := lnN_val hP h0
  have hrl := lnN_val hP (z := (P.l : Int) + 1) (by omega)
  have ha : (bankR P).a = P.a := rfl
  obtain ⟨E, e1, e2, e3, e4, e5, e6, e7⟩ := gd_word hP G h0 (by omega) hk hv
  exact ⟨E, e1, ⟨e3, e4, by rw [e2]; exact G.fit, e5, by rw [e7 _ (by omega)]; exact G.reg, fun k hk => by rw [e7 _ (by omega)]; exact G.tab k hk⟩, e2, e6, e7⟩
theorem from_in (hP : OkR P) (j : Nat) : 0 ≤ fromI P j ∧ fromI P j ≤ (P.l : Int) ∧ 0 ≤ toI P j ∧ toI P j ≤ (P.l : Int) ∧ fromI P j ≠ toI P j := by
  have h := at_right P.l j hP.l1 hP.l2
  have h1 := hP.l1
  unfold rightS at h
  unfold fromI toI
  split <;> omega
/-- A move. -/
theorem gd_move (hP : OkR P) (G : GdR P D j) (hj : j < 4294967295) :
    ∃ D1 D2, (readR D (bankR P) B0 (fromI P j)).2 = 0 ∧ writeS (bankR P) (toI P j) (readR D (bankR P) B0 (fromI P j)).1 D B0 = (0, D1, B0) ∧ writeWordS (bankR P) ((P.l : Int) + 1) 0 (pkN P (j + 1)) D1 B0 = (0, D2, B0) ∧ D1.n = D.n ∧ D2.n = D.n ∧ GdR P D2 (j + 1) ∧
      (∀ k, k < 8 → D2.med (8 * lnN P (toI P j) + k) = D.med (8 * lnN P (fromI P j) + k)) ∧ ∀ x, (x < 8 * lnN P (toI P j) ∨ 8 * lnN P (toI P j) + 8 ≤ x) → x ≠ 8 * lnN P ((P.l : Int) + 1) → D2.med x = D.med x := by
  obtain ⟨q1, q2, q3, q4, q5, q6⟩ := rg_nums hP
  obtain ⟨f1, f2, t1, t2, ne⟩ := from_in hP j
  have ha : (bankR P).a = P.a := rfl
  have hrl := lnN_val hP (z := (P.l : Int) + 1) (by omega)
  have htl := lnN_val hP t1
  have hfl := lnN_val hP f1
  have hR : readR D (bankR P) B0 (fromI P j) = (⟨(getT D (lnN P (fromI P j))).toArray⟩, 0) := by
    unfold readR
    rw [if_pos ⟨f1, by show fromI P j < (P.l : Int) + 2; omega⟩, G.calm.off, place0 hP f1, Int.toNat_natCast]
    simp
  rw [hR]
  obtain ⟨D1, a1, a2, a3, a4, a5⟩ := gd_line hP G t1 t2 (line_size D (lnN P (fromI P j)))
  obtain ⟨k1, k2⟩ := pkN_val hP (j + 1) (by omega)
  obtain ⟨D2, b1, b2, b3, b4, b5, b6, b7⟩ := gd_word hP a2 (z := (P.l : Int) + 1) (by omega) (Int.le_refl _) (k := 0) (by omega) k2
  rw [Nat.add_zero] at b6 b7
  refine ⟨D1, D2, rfl, a1, b1, a3, b2.trans a3, ⟨b3, b4, by rw [b2]; exact a2.fit, b5, b6, fun k hk => by rw [b7 _ (by omega)]; exact a2.tab k hk⟩, fun k hk => ?_, fun x hx hne => ?_⟩
  · rw [b7 _ (by omega), a4 k hk, line_words G.calm G.mb k hk]
  · rw [b7 _ hne, a5 x hx]
/-- A fresh region. -/
theorem gd_fresh (hP : OkR P) (hz : Zero D) (hb : D.bad = fun _ => false) (hf : (bankR P).a + sizeZ (bankR P) ≤ (D.n : Int)) :
    ∃ E, writeWordS (bankR P) ((P.l : Int) + 1) 0 (pkN P 0) D B0 = (0, E, B0) ∧ GdR P E 0 ∧ E.n = D.n ∧ (∀ x, x ≠ 8 * lnN P ((P.l : Int) + 1) → E.med x = 0) := by
  obtain ⟨q1, q2, q3, q4, q5, q6⟩ := rg_nums hP
  have hrl := lnN_val hP (z := (P.l : Int) + 1) (by omega)
  obtain ⟨k1, k2⟩ := pkN_val hP 0 (by omega)
  obtain ⟨e1, e2⟩ := pkN_zero hP
  -- any GdR-like state: use gd_word's argument with j irrelevant
  have ha : (bankR P).a = P.a := rfl
  have hin : inP (bankR P) ((P.l : Int) + 1) := ⟨by omega, by show (P.l : Int) + 1 < (P.l : Int) + 2; omega⟩
  obtain ⟨E, p1, p2⟩ := putword_calm (l := lnN P ((P.l : Int) + 1)) (k := 0) (v := pkN P 0) hz.calm (by omega) (by omega)
  have hm : ∀ x, x ≠ 8 * lnN P ((P.l : Int) + 1) → E.med x = 0 := fun x hx => by rw [p2.med, if_neg (by omega)]; exact hz.med x
  have hv2 : E.med (8 * lnN P ((P.l : Int) + 1)) = pkN P 0 := by rw [p2.med, if_pos ⟨by omega, by omega, by rw [hb]⟩]
  have hlv : lineF D (lnN P ((P.l : Int) + 1)) = fun j => D.med (8 * lnN P ((P.l : Int) + 1) + j) := lineF_live ⟨hz.calm.off, hz.calm.buf⟩ _
  refine ⟨E, ?_, ⟨p2.calm, by rw [p2.bad, hb], by rw [p2.n]; exact hf, fun x => ?_, hv2, fun k hk => hm _ (by omega)⟩, p2.n, hm⟩
  · unfold writeWordS
    rw [if_neg (by omega), if_pos hin, hz.calm.off, place0 hP (by omega), Int.toNat_natCast, show ((0 : Int)).toNat = 0 from rfl, show (0 : Int) = ((0 : Nat) : Int) from rfl, p1]
    simp only [ne_eq, not_true_eq_false, if_false, Bool.false_eq_true]
    unfold ensureS
    rw [took_of (by rw [p2.n]; omega) (textU_size _) (fun i hi => by
      rw [wd_textU (fun i => by unfold updF; split; exact k2; rw [hlv]; simp only [hz.med]; omega) i hi, hlv]
      unfold updF
      split
      · rename_i c; rw [c, Nat.add_zero]; exact hv2
      · rename_i c; rw [hm _ (by omega)]; exact (hz.med _).symm)]
    rfl
  · by_cases c : x = 8 * lnN P ((P.l : Int) + 1)
    · rw [c, hv2]; exact k2
    · rw [hm x c]; omega
theorem gd_opens (hP : OkR P) (G : GdR P D j) : openS (bankR P) D (bankR P).s.toNat 0 ⟨0, fun _ => none⟩ = (0, B0) := by
  obtain ⟨q1, q2, q3, q4, q5, q6⟩ := rg_nums hP
  have hs : (bankR P).s = P.s := rfl
  refine openS_zero _ _ _ fun k hk => ?_
  rw [calm_load G.calm, Nat.zero_add]
  exact G.tab k (by omega)
theorem gd_reads (hP : OkR P) (G : GdR P D j) {z : Int} (h0 : 0 ≤ z) (h1 : z ≤ (P.l : Int) + 1) : readR D (bankR P) B0 z = (⟨(getT D (lnN P z)).toArray⟩, 0) := by
  unfold readR
  rw [if_pos ⟨h0, by show z < (P.l : Int) + 2; omega⟩, G.calm.off, place0 hP h0, Int.toNat_natCast]
  simp
theorem gd_check (hP : OkR P) (G : GdR P D j) : checkZ (bankR P) (D.n : Int) = 0 := by
  have := G.fit
  unfold checkZ
  rw [if_pos hP.ok, if_neg (by omega)]
end
end Go.Proofs.YtdgcninmpcmdcaaGreat

/-
  Layer 7: full, wakes.
-/
namespace Go.Proofs.YtdgcninmpcmdcaaGreat
open Go.RowKit
set_option linter.unusedVariables false

set_option maxRecDepth 20000 in
set_option maxHeartbeats 2000000 in
theorem full07 (s : ByteArray) (w : World) (hs : s.size ≤ 4611686018427387904) :
    Calls Tryz.prog 10 #[.string s] w fun e w' => e = .returned (.string (fullS s)) ∧ Gr [] w w' := by
  go_enter Tryz.func10, Tryz.ntmps10
  go_wp2_with fail
  refine (repeat64 _).mono ?_
  rintro e w1 ⟨rfl, g1⟩
  have HG := Lib.hid g1
  clear g1
  go_wp2_with fail
  go_ret
  exact ⟨by rw [← extract_full]; rfl, HG.out⟩
def P07 : PlanR := ⟨0, 4, 0, 2⟩
theorem ok07 : OkR P07 := ⟨by decide, by decide, by decide, by decide, by decide⟩
theorem nums07 : slotJ P07 0 0 = 0 ∧ slotJ P07 0 3 = 3 ∧ slotJ P07 1 1 = 1 ∧ slotJ P07 1 3 = 4 ∧ fromI P07 0 = 3 ∧ toI P07 0 = 4 ∧ sAt 4 0 = 0 ∧ gAt 4 0 = 4 ∧ lnN P07 1 = 1 ∧ lnN P07 3 = 3 ∧ lnN P07 4 = 4 ∧ lnN P07 5 = 5 := by decide
/-- What the device is behind each step. -/
theorem pure07 {D : DevS} {A T : ByteArray} (G : GdR P07 D 0) (hA : A.size = 64) (hT : T.size = 64) :
    ∃ D2 D3 D4 D5 D6, writeS (bankR P07) (slotJ P07 0 0) A D B0 = (0, D2, B0) ∧ writeS (bankR P07) (slotJ P07 0 3) T D2 B0 = (0, D3, B0) ∧ (readR D3 (bankR P07) B0 (fromI P07 0)).2 = 0 ∧ writeS (bankR P07) (toI P07 0) (readR D3 (bankR P07) B0 (fromI P07 0)).1 D3 B0 = (0, D4, B0) ∧
      writeWordS (bankR P07) (((4 : Nat) : Int) + 1) 0 (pkN P07 1) D4 B0 = (0, D5, B0) ∧ writeWordS (bankR P07) (slotJ P07 1 1) 0 5 D5 B0 = (0, D6, B0) ∧ D2.n = D.n ∧ D3.n = D.n ∧ D4.n = D.n ∧ D5.n = D.n ∧ D6.n = D.n ∧ readR D6 (bankR P07) B0 (slotJ P07 1 3) = (T, 0) := by
  obtain ⟨s1, s2, s3, s4, s5, s6, s7, s8, l1, l3, l4, l5⟩ := nums07
  obtain ⟨D2, a1, a2, a3, a4, a5⟩ := gd_line ok07 G (z := 0) (by omega) (by decide) hA
  obtain ⟨D3, b1, b2, b3, b4, b5⟩ := gd_line ok07 a2 (z := 3) (by omega) (by decide) hT
  obtain ⟨D4, D5, c1, c2, c3, c4, c5, c6, c7, c8⟩ := gd_move ok07 b2 (by omega)
  obtain ⟨D6, d1, d2, d3, d4, d5⟩ := gd_lword ok07 c6 (z := 1) (k := 0) (v := 5) (by omega) (by decide) (by omega) (by omega)
  refine ⟨D2, D3, D4, D5, D6, by rw [s1]; exact a1, by rw [s2]; exact b1, c1, c2, c3, by rw [s3]; exact d1, a3, b3.trans a3, c4.trans (b3.trans a3), c5.trans (b3.trans a3), d3.trans (c5.trans (b3.trans a3)), ?_⟩
  rw [s4, gd_reads ok07 d2 (by omega) (by decide), l4]
  rw [getT_of d2.calm hT fun k hk => ?_]
  rw [l1] at d5
  rw [s5, s6, l3, l4] at c7
  rw [l3] at b4
  rw [d5 _ (by omega), c7 k hk, b4 k hk]
end Go.Proofs.YtdgcninmpcmdcaaGreat
