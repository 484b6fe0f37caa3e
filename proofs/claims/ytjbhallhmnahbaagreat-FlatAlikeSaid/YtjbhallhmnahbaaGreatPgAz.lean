/-
  PgAz: FlK, FlB, FlE, FlF.
-/
import Derived.Test.YtjbhallhmnahbaaGreatPgAt
import Derived.Test.YtjbhallhmnahbaaGreatPgAy
import Derived.Test.YtjbhallhmnahbaaGreatPgAx

/-
  Layer 9, pure: what lasts of a Format, of a bank, of a region; writes on unbroken lines.
-/
namespace Go.Proofs.YtjbhallhmnahbaaGreat
open Go.RowKit
set_option linter.unusedVariables false

section
variable {p : PlanZ} {D E : DevS} {B : BkS}
theorem fmt_last (ha : 0 ≤ p.a) : ∀ (r k : Nat) (D : DevS), Live D → D.bad = (fun _ => false) → p.a + (k : Int) + (r : Int) ≤ (D.n : Int) →
    (∃ E, fmtZ p r k D = (0, E) ∧ Live E ∧ E.n = D.n ∧ E.bad = D.bad ∧ ∀ x : Nat, E.med x = if 8 * (p.a + (k : Int)) ≤ (x : Int) ∧ (x : Int) < 8 * (p.a + (k : Int) + (r : Int)) then 0 else D.med x) ∨
    (∃ E, fmtZ p r k D = (6, E) ∧ E.off = true ∧ E.n = D.n ∧ E.bad = D.bad ∧ ∀ L kp, IsPend E L → ∀ x : Nat, (bootD E L kp).med x = D.med x ∨ ((bootD E L kp).med x = 0 ∧ 8 * (p.a + (k : Int)) ≤ (x : Int) ∧ (x : Int) < 8 * (p.a + (k : Int) + (r : Int))))
  | 0, k, D, hd, hb, hn => .inl ⟨D, rfl, hd, rfl, rfl, fun x => by rw [if_neg (by omega)]⟩
  | r + 1, k, D, hd, hb, hn => by
    obtain ⟨l, hl⟩ : ∃ l : Nat, p.a + (k : Int) = (l : Int) := ⟨(p.a + (k : Int)).toNat, by omega⟩
    rw [fmtZ, hl]
    rcases put_live (l := l) hd (by omega) zeroT_size with ⟨E1, e1, s1⟩ | ⟨E1, e1, s1⟩
    · rw [e1, if_neg (by simp)]
      simp only
      have hm1 : ∀ x, E1.med x = if 8 * l ≤ x ∧ x < 8 * l + 8 then 0 else D.med x := fun x => by
        rw [s1.med]
        by_cases c : 8 * l ≤ x ∧ x < 8 * l + 8
        · rw [if_pos c, if_pos ⟨c.1, c.2, by rw [hb]⟩]
          exact zeroT_word (by omega)
        · rw [if_neg c, if_neg (fun q => c ⟨q.1, q.2.1⟩)]
      rcases fmt_last ha r (k + 1) E1 s1.live (by rw [s1.bad, hb]) (by rw [s1.n]; omega) with ⟨E, q1, q2, q3, q4, q5⟩ | ⟨E, q1, q2, q3, q4, q5⟩
      · refine .inl ⟨E, q1, q2, q3.trans s1.n, q4.trans s1.bad, fun x => ?_⟩
        rw [q5, hm1]
        split
        · rw [if_pos (by omega)]
        · split
          · rw [if_pos (by omega)]
          · rw [if_neg (by omega)]
      · refine .inr ⟨E, q1, q2, q3.trans s1.n, q4.trans s1.bad, fun L kp hL x => ?_⟩
        rcases q5 L kp hL x with c | c
        · rw [c, hm1]
          split
          · exact .inr ⟨rfl, by omega, by omega⟩
          · exact .inl rfl
        · exact .inr ⟨c.1, by omega, by omega⟩
    · rw [e1, if_pos (by simp)]
      refine .inr ⟨E1, rfl, s1.off, s1.n, s1.bad, fun L kp hL x => ?_⟩
      rcases boot_torn kp s1 hL x with c | ⟨j, j1, j2, j3, _⟩
      · exact .inl c
      · refine .inr ⟨?_, by omega, by omega⟩
        rw [j3]
        exact zeroT_word (by omega)
theorem fmt_calm (ha : 0 ≤ p.a) : ∀ (r k : Nat) (D : DevS), Calm D → p.a + (k : Int) + (r : Int) ≤ (D.n : Int) → ∃ E, fmtZ p r k D = (0, E) ∧ Calm E
  | 0, k, D, hd, hn => ⟨D, rfl, hd⟩
  | r + 1, k, D, hd, hn => by
    obtain ⟨l, hl⟩ : ∃ l : Nat, p.a + (k : Int) = (l : Int) := ⟨(p.a + (k : Int)).toNat, by omega⟩
    rw [fmtZ, hl]
    obtain ⟨E1, e1, s1⟩ := put_calm (l := l) hd (by omega) zeroT_size
    rw [e1, if_neg (by simp)]
    exact fmt_calm ha r (k + 1) E1 s1.calm (by rw [s1.n]; omega)
theorem Calm.live (h : Calm D) : Live D := ⟨h.off, h.buf⟩
theorem calm_bare (h : Calm D) : bare D = D := by
  have hb : D.buf = fun _ => none := funext h.buf
  have h1 := h.off
  have h2 := h.fuse
  obtain ⟨a, b, c, d, e, f, g, i⟩ := D
  simp only at hb h1 h2
  subst hb h1 h2
  rfl
/-- A line's write where no line is bad: done, or cut. -/
theorem write_good {i : Int} {s : ByteArray} (h : TI p (bare D) B) (hd : Live D) (hb : D.bad = fun _ => false) (hok : okZ p = true) (hi : inP p i) (hs : s.size = 64) :
    ∃ l0 : Nat, placeP p B i = (l0 : Int) ∧ l0 < D.n ∧ p.a + tabZ p ≤ (l0 : Int) ∧ (l0 : Int) < p.a + sizeZ p ∧ ((∃ E, writeS p i s D B = (0, E, B) ∧ Whole D E l0 (8 * l0) 8 (wdL s.data.toList) ∧ (Calm D → Calm E)) ∨ (∃ E, writeS p i s D B = (6, E, B) ∧ Torn D E (8 * l0) 8 (wdL s.data.toList) ∧ ¬ Calm D)) := by
  obtain ⟨l0, hp, hln, hl1, hl2⟩ := h.place hok hi
  have hln2 : l0 < D.n := hln
  have hus := h.us
  have hsz : sizeZ p = tabZ p + p.l + p.s := by unfold sizeZ; rw [if_pos hok]
  refine ⟨l0, hp, hln2, hl1, by unfold spareP at hl2; omega, ?_⟩
  unfold writeS
  rw [if_neg (by simp [hs]), if_pos hi, hp]
  rcases put_live (l := l0) hd hln2 hs with ⟨E2, e2, s2⟩ | ⟨E, e2, s2⟩
  · left
    rw [e2]
    refine ⟨E2, ?_, s2, fun hc => ?_⟩
    · show (if (0 : Int) ≠ 0 then _ else _ : Int × DevS × BkS) = _
      rw [if_neg (by simp)]
      unfold ensureS
      rw [took_of (by rw [s2.n]; exact hln2) hs (fun k hk => by
        rw [s2.med, if_pos ⟨by omega, by omega, by rw [hb]⟩]
        congr 1
        omega)]
      simp
    · obtain ⟨E3, e3, s3⟩ := put_calm (l := l0) hc hln2 hs
      rw [e2] at e3
      cases e3
      exact s3.calm
  · right
    rw [e2]
    refine ⟨E, by simp, s2, fun hc => ?_⟩
    obtain ⟨E3, e3, s3⟩ := put_calm (l := l0) hc hln2 hs
    rw [e2] at e3
    cases e3
theorem ww_good {i : Int} {k v : Nat} (h : TI p (bare D) B) (hd : Live D) (hb : D.bad = fun _ => false) (hmed : ∀ l : Nat, placeP p B i = (l : Int) → ∀ k, k < 8 → D.med (8 * l + k) < 18446744073709551616) (hv : v < 18446744073709551616) (hok : okZ p = true) (hi : inP p i) (hk : k < 8) :
    ∃ l0 : Nat, placeP p B i = (l0 : Int) ∧ l0 < D.n ∧ p.a + tabZ p ≤ (l0 : Int) ∧ (l0 : Int) < p.a + sizeZ p ∧ ((∃ E, writeWordS p i (k : Int) v D B = (0, E, B) ∧ Whole D E l0 (8 * l0 + k) 1 (fun _ => v) ∧ (Calm D → Calm E)) ∨ (∃ E, writeWordS p i (k : Int) v D B = (6, E, B) ∧ Torn D E (8 * l0 + k) 1 (fun _ => v) ∧ ¬ Calm D)) := by
  obtain ⟨l0, hp, hln, hl1, hl2⟩ := h.place hok hi
  have hln2 : l0 < D.n := hln
  have hus := h.us
  have hsz : sizeZ p = tabZ p + p.l + p.s := by unfold sizeZ; rw [if_pos hok]
  refine ⟨l0, hp, hln2, hl1, by unfold spareP at hl2; omega, ?_⟩
  have hwr : writeWordS p i (k : Int) v D B = if (pwE D (l0 : Int) (k : Int) v).1 ≠ 0 then ((pwE D (l0 : Int) (k : Int) v).1, (pwE D (l0 : Int) (k : Int) v).2, B) else ensureS p i (l0 : Int) (textU (updF (fun j => D.med (8 * l0 + j)) k v)) (pwE D (l0 : Int) (k : Int) v).2 B := by
    unfold writeWordS
    rw [if_neg (by omega), if_pos hi, hd.off, hp, Int.toNat_natCast, Int.toNat_natCast, lineF_live hd]
    simp
  rw [hwr]
  rcases putword_live (l := l0) (k := k) (v := v) hd hln2 hk with ⟨E2, e2, s2⟩ | ⟨E, e2, s2⟩
  · left
    rw [e2]
    refine ⟨E2, ?_, s2, fun hc => ?_⟩
    · show (if (0 : Int) ≠ 0 then _ else _ : Int × DevS × BkS) = _
      rw [if_neg (by simp)]
      unfold ensureS
      rw [took_of (by rw [s2.n]; exact hln2) (textU_size _) (fun j hj => by
        rw [s2.med, wd_textU8 (fun j hj => by
          unfold updF
          split
          · exact hv
          · exact hmed l0 hp j hj) j hj]
        unfold updF
        by_cases c : j = k
        · rw [if_pos c, if_pos ⟨by omega, by omega, by rw [hb]⟩]
        · rw [if_neg c, if_neg (by omega)])]
      simp
    · obtain ⟨E3, e3, s3⟩ := putword_calm (l := l0) (k := k) (v := v) hc hln2 hk
      rw [e2] at e3
      cases e3
      exact s3.calm
  · right
    rw [e2]
    refine ⟨E, by simp, s2, fun hc => ?_⟩
    obtain ⟨E3, e3, s3⟩ := putword_calm (l := l0) (k := k) (v := v) hc hln2 hk
    rw [e2] at e3
    cases e3
/-- A bank whose table is empty. -/
theorem TI.fresh (hok : okZ p = true) (hf : p.a + sizeZ p ≤ (D.n : Int)) (hb : D.bad = fun _ => false) (ht : ∀ k : Nat, (k : Int) < p.s → D.med (8 * p.a.toNat + k) = 0) : TI p (bare D) ⟨0, fun _ => none⟩ :=
  ⟨bare_calm D, hf, ((okZ_iff p).1 hok).2.2.2.2.1, (fun x k e => by cases e), (fun k _ h => ht k h), rfl, (fun l _ _ => by show D.bad l = false; rw [hb])⟩
end
section
variable {P : PlanR} {D : DevS}
/-- What a fresh region has. -/
theorem rfmt_last (hP : OkR P) (hd : Live D) (hb : D.bad = fun _ => false) (hfit : (bankR P).a + sizeZ (bankR P) ≤ (D.n : Int)) :
    ((fmtZ (bankR P) (tabZ (bankR P) + (bankR P).l).toNat 0 D).1 = 0 → (fmtZ (bankR P) (tabZ (bankR P) + (bankR P).l).toNat 0 D).2.off = false ∧ (fmtZ (bankR P) (tabZ (bankR P) + (bankR P).l).toNat 0 D).2.n = D.n ∧ ∀ k : Nat, (k : Int) < P.s → loadV (fmtZ (bankR P) (tabZ (bankR P) + (bankR P).l).toNat 0 D).2 (8 * P.a.toNat + k) = 0) ∧
    ((∃ E, rfmtZ P D = (0, E) ∧ Live E ∧ E.n = D.n ∧ E.bad = D.bad ∧ RgC P (bare E) B0 0 (fun _ _ => 0) ∧ ∀ x, OutZ (bankR P) x → E.med x = D.med x) ∨
     (∃ E, rfmtZ P D = (6, E) ∧ E.off = true ∧ E.n = D.n ∧ E.bad = D.bad ∧ ∀ L kp, IsPend E L → ∀ x, OutZ (bankR P) x → (bootD E L kp).med x = D.med x)) ∧
    (Calm D → (rfmtZ P D).1 = 0 ∧ Calm (rfmtZ P D).2) := by
  obtain ⟨q1, q2, q3, q4, q5, q6⟩ := rg_nums hP
  have hbl : (bankR P).l = (P.l : Int) + 2 := rfl
  have hba : (bankR P).a = P.a := rfl
  have hbs : (bankR P).s = P.s := rfl
  obtain ⟨L, hL⟩ : ∃ L : Nat, L = (tabZ (bankR P) + (bankR P).l).toNat := ⟨_, rfl⟩
  have hR : rfmtZ P D = if (fmtZ (bankR P) L 0 D).1 ≠ 0 then fmtZ (bankR P) L 0 D else ((writeWordS (bankR P) ((P.l : Int) + 1) 0 (pkN P 0) (fmtZ (bankR P) L 0 D).2 ⟨0, fun _ => none⟩).1, (writeWordS (bankR P) ((P.l : Int) + 1) 0 (pkN P 0) (fmtZ (bankR P) L 0 D).2 ⟨0, fun _ => none⟩).2.1) := by rw [hL]; rfl
  rw [← hL]
  have hcalm : Calm D → ∃ E, fmtZ (bankR P) L 0 D = (0, E) ∧ Calm E := fun hc => fmt_calm (by omega) L 0 D hc (by omega)
  have hir : inP (bankR P) ((P.l : Int) + 1) := inR P (by omega) (by omega)
  obtain ⟨_, hv2⟩ := pkN_val hP 0 (by omega)
  rcases fmt_last (p := bankR P) (by omega) L 0 D hd hb (by omega) with ⟨F, f1, f2, f3, f4, f5⟩ | ⟨F, f1, f2, f3, f4, f5⟩
  · have ft : ∀ k : Nat, (k : Int) < P.s → F.med (8 * P.a.toNat + k) = 0 := fun k hk => by
      rw [f5, if_pos (by omega)]
    have T : TI (bankR P) (bare F) B0 := TI.fresh hP.ok (by rw [f3]; exact hfit) (by rw [f4, hb]) ft
    rw [f1] at hR ⊢
    rw [if_neg (by simp)] at hR
    simp only at hR ⊢
    have hmed : ∀ l : Nat, placeP (bankR P) B0 ((P.l : Int) + 1) = (l : Int) → ∀ k, k < 8 → F.med (8 * l + k) = 0 := fun l hl k hk => by
      rw [place0 hP (by omega)] at hl
      have := lnN_val hP (z := (P.l : Int) + 1) (by omega)
      rw [f5, if_pos (by omega)]
    obtain ⟨l2, p2, ln2, la2, lb2, X⟩ := ww_good (k := 0) (v := pkN P 0) T f2 (by rw [f4, hb]) (fun l hl k hk => by rw [hmed l hl k hk]; omega) hv2 hP.ok hir (by omega)
    have hl2 : l2 = lnN P ((P.l : Int) + 1) := by rw [place0 hP (by omega)] at p2; omega
    have hlv := lnN_val hP (z := (P.l : Int) + 1) (by omega)
    refine ⟨fun _ => ⟨f2.off, f3, fun k hk => by unfold loadV; rw [f2.buf]; exact ft k hk⟩, ?_, fun hc => ?_⟩
    · rcases X with ⟨D2, w2, y2, _⟩ | ⟨D2, w2, y2, _⟩
      · have w2' : writeWordS (bankR P) ((P.l : Int) + 1) 0 (pkN P 0) F ⟨0, fun _ => none⟩ = (0, D2, B0) := w2
        rw [w2'] at hR
        simp only at hR
        have hmo : ∀ x, x ≠ 8 * l2 → D2.med x = F.med x := fun x hx => by rw [y2.med, if_neg (by omega)]
        refine .inl ⟨D2, hR, y2.live, y2.n.trans f3, y2.bad.trans f4, ⟨TI.fresh hP.ok (by rw [y2.n, f3]; exact hfit) (by rw [y2.bad, f4, hb]) (fun k hk => by rw [hmo _ (by omega)]; exact ft k hk), ?_, fun i k hi hk => ?_⟩, fun x hx => ?_⟩
        · unfold cntZ
          rw [place0 hP (by omega), Int.toNat_natCast]
          show D2.med _ = _
          rw [y2.med, if_pos ⟨by omega, by omega, by rw [f4, hb]⟩]
        · have hle := slotN_le (j := 0) (i := i) hP.l1
          have hlz := lnN_val hP (z := ((slotN P.l 0 i : Nat) : Int)) (by omega)
          unfold cntZ
          rw [place0 hP (by omega), Int.toNat_natCast]
          show D2.med _ = 0
          rw [hmo _ (by omega), f5, if_pos (by omega)]
        · unfold OutZ at hx
          rw [hmo _ (by omega), f5, if_neg (by omega)]
      · have w2' : writeWordS (bankR P) ((P.l : Int) + 1) 0 (pkN P 0) F ⟨0, fun _ => none⟩ = (6, D2, B0) := w2
        rw [w2'] at hR
        simp only at hR
        refine .inr ⟨D2, hR, y2.off, y2.n.trans f3, y2.bad.trans f4, fun L2 kp hL2 x hx => ?_⟩
        unfold OutZ at hx
        rcases boot_torn kp y2 hL2 x with c | ⟨j, j1, j2, _⟩
        · rw [c, f5, if_neg (by omega)]
        · omega
    · obtain ⟨E, e1, e2⟩ := hcalm hc
      rw [f1] at e1
      cases e1
      rcases X with ⟨D2, w2, y2, c2⟩ | ⟨D2, w2, y2, c2⟩
      · have w2' : writeWordS (bankR P) ((P.l : Int) + 1) 0 (pkN P 0) F ⟨0, fun _ => none⟩ = (0, D2, B0) := w2
        rw [w2'] at hR
        simp only at hR
        rw [hR]
        exact ⟨rfl, c2 e2⟩
      · exact absurd e2 c2
  · rw [f1] at hR ⊢
    rw [if_pos (by simp)] at hR
    refine ⟨fun q => absurd q (by simp), .inr ⟨F, hR, f2, f3, f4, fun L2 kp hL2 x hx => ?_⟩, fun hc => ?_⟩
    · rcases f5 L2 kp hL2 x with c | c
      · exact c
      · unfold OutZ at hx
        omega
    · obtain ⟨E, e1, e2⟩ := hcalm hc
      rw [f1] at e1
      cases e1
end
end Go.Proofs.YtjbhallhmnahbaaGreat

/-
  Layer 9, pure: an unbroken region stands while another one is written; regions one behind the other.
-/
namespace Go.Proofs.YtjbhallhmnahbaaGreat
open Go.RowKit
set_option linter.unusedVariables false

section
variable {P P2 : PlanR} {D E : DevS} {j j2 : Nat}
/-- The words of a region's lines are within it. -/
theorem lnN_within (hP : OkR P) {z : Int} (h0 : 0 ≤ z) (h1 : z ≤ (P.l : Int) + 1) {k : Nat} (hk : k < 8) : 8 * P.a ≤ ((8 * lnN P z + k : Nat) : Int) ∧ ((8 * lnN P z + k : Nat) : Int) < 8 * (P.a + sizeZ (bankR P)) := by
  obtain ⟨q1, q2, q3, q4, q5, q6⟩ := rg_nums hP
  have := lnN_val hP h0
  omega
theorem GdR.apart (hP : OkR P) (hP2 : OkR P2) (ha : Apart (bankR P) (bankR P2)) (G : GdR P2 D j2) (hc : Calm E) (hn : E.n = D.n) (hb : E.bad = fun _ => false) (hm : ∀ x, E.med x < 18446744073709551616)
    (hx : ∀ x : Nat, (x : Int) < 8 * P.a ∨ 8 * (P.a + sizeZ (bankR P)) ≤ (x : Int) → E.med x = D.med x) : GdR P2 E j2 ∧ ∀ i k, i < P2.l → k < 8 → wdR P2 E j2 i k = wdR P2 D j2 i k := by
  have ha' : P.a + sizeZ (bankR P) ≤ P2.a ∨ P2.a + sizeZ (bankR P2) ≤ P.a := ha
  obtain ⟨q1, q2, q3, q4, q5, q6⟩ := rg_nums hP2
  refine ⟨⟨hc, hb, by rw [hn]; exact G.fit, hm, ?_, fun k hk => ?_⟩, fun i k hi hk => ?_⟩
  · obtain ⟨w1, w2⟩ := lnN_within hP2 (z := (P2.l : Int) + 1) (by omega) (by omega) (k := 0) (by omega)
    rw [Nat.add_zero] at w1 w2
    rw [hx _ (by omega)]
    exact G.reg
  · rw [hx _ (by omega)]
    exact G.tab k hk
  · have hle := slotN_le (j := j2) (i := i) hP2.l1
    obtain ⟨w1, w2⟩ := lnN_within hP2 (z := ((slotN P2.l j2 i : Nat) : Int)) (by omega) (by omega) hk
    unfold wdR
    exact hx _ (by omega)
/-- Region r of several of the same size, one behind the other from line 1 on. -/
def regP (l : Nat) (s psi : Int) (r : Nat) : PlanR := ⟨1 + (r : Int) * sizeZ ⟨1, (l : Int) + 2, s⟩, l, s, psi⟩
theorem regP_size {l : Nat} {s psi : Int} {r : Nat} (h1 : 1 ≤ l) (h2 : l ≤ 1024) (s0 : 0 ≤ s) (s1 : s ≤ 64) (hf : 1 + (r : Int) * sizeZ ⟨1, (l : Int) + 2, s⟩ ≤ 8192) (p1 : 1 ≤ psi) (p2 : psi ≤ 65535) : OkR (regP l s psi r) ∧ sizeZ (bankR (regP l s psi r)) = sizeZ ⟨1, (l : Int) + 2, s⟩ := by
  have ok1 : okZ ⟨1, (l : Int) + 2, s⟩ = true := (okZ_iff _).2 ⟨by show (0 : Int) ≤ 1; omega, by show (1 : Int) ≤ 8192; omega, by show 1 ≤ (l : Int) + 2; omega, by show (l : Int) + 2 ≤ 1026; omega, s0, s1⟩
  have sz1 : sizeZ ⟨1, (l : Int) + 2, s⟩ = (s + 7) / 8 + ((l : Int) + 2) + s := by unfold sizeZ; rw [if_pos ok1]; rfl
  have hpos : 0 ≤ (r : Int) * sizeZ ⟨1, (l : Int) + 2, s⟩ := Int.mul_nonneg (by omega) (by omega)
  have ok2 : okZ (bankR (regP l s psi r)) = true := (okZ_iff _).2 ⟨by show 0 ≤ 1 + (r : Int) * sizeZ ⟨1, (l : Int) + 2, s⟩; omega, hf, by show 1 ≤ (l : Int) + 2; omega, by show (l : Int) + 2 ≤ 1026; omega, s0, s1⟩
  refine ⟨⟨h1, h2, p1, p2, ok2⟩, ?_⟩
  rw [sz1]
  unfold sizeZ
  rw [if_pos ok2]
  rfl
end
end Go.Proofs.YtjbhallhmnahbaaGreat

/-
  Layer 9: a config: Bank and Check of any plan, region, Size, Check.
-/
namespace Go.Proofs.YtjbhallhmnahbaaGreat
open Go.RowKit
set_option linter.unusedVariables false

structure CfgZ where
  r : Int
  l : Int
  s : Int
  psi : Int
  key : Nat
def cfgV (C : CfgZ) : Value := .agg #[.int .i64 C.r, .int .i64 C.l, .int .i64 C.s, .int .i64 C.psi, .int .u64 (C.key : Int)]
def cfgRow (C : CfgZ) : Array Value := #[.int .i64 C.r, .int .i64 C.l, .int .i64 C.s, .int .i64 C.psi, .int .u64 (C.key : Int)]
/-- May a region be. -/
def okP (C : CfgZ) : Prop := 1 ≤ C.l ∧ C.l ≤ 1024 ∧ 0 ≤ C.s ∧ C.s ≤ 64 ∧ 1 ≤ C.psi ∧ C.psi ≤ 65535
instance (C : CfgZ) : Decidable (okP C) := by unfold okP; infer_instance
def wfC (C : CfgZ) : Prop := (-9223372036854775808 ≤ C.l ∧ C.l ≤ 9223372036854775807) ∧ (-9223372036854775808 ≤ C.r ∧ C.r ≤ 9223372036854775807)
def regS (C : CfgZ) : Int := sizeZ ⟨1, IntKind.i64.wrap (C.l + 2), C.s⟩
theorem regS_b (C : CfgZ) : 0 ≤ regS C ∧ regS C ≤ 1098 := by
  unfold regS sizeZ
  split
  · rename_i h
    obtain ⟨h1, h2, h3, h4, h5, h6⟩ := (okZ_iff _).1 h
    unfold tabZ
    simp only at *
    omega
  · omega
theorem regS_ok {C : CfgZ} (h : okP C) : regS C = sizeZ ⟨1, C.l + 2, C.s⟩ ∧ regS C = (C.s + 7) / 8 + (C.l + 2) + C.s := by
  obtain ⟨h1, h2, h3, h4, h5, h6⟩ := h
  have hw : IntKind.i64.wrap (C.l + 2) = C.l + 2 := IntWalk.i64_in _ (by omega)
  have ok : okZ ⟨1, C.l + 2, C.s⟩ = true := (okZ_iff _).2 ⟨by show (0 : Int) ≤ 1; omega, by show (1 : Int) ≤ 8192; omega, by show 1 ≤ C.l + 2; omega, by show C.l + 2 ≤ 1026; omega, h3, h4⟩
  unfold regS
  rw [hw]
  refine ⟨rfl, ?_⟩
  unfold sizeZ
  rw [if_pos ok]
  rfl
def sizeC (C : CfgZ) : Int := if 1 ≤ C.r ∧ C.r ≤ 16 ∧ okP C then 1 + C.r * regS C else 0
def checkC (C : CfgZ) (n : Int) : Int := if sizeC C = 0 then 2 else if n < sizeC C then 3 else 0
theorem sizeC_b (C : CfgZ) : 0 ≤ sizeC C ∧ sizeC C ≤ 17569 := by
  have hb := regS_b C
  unfold sizeC
  split
  · rename_i h
    obtain ⟨h1, h2, -⟩ := h
    have a1 : 0 ≤ C.r * regS C := Int.mul_nonneg (by omega) hb.1
    have a2 : C.r * regS C ≤ 16 * 1098 := Int.mul_le_mul h2 hb.2 hb.1 (by omega)
    omega
  · omega
theorem bank_gen (a l s psi : Int) (hl : -9223372036854775808 ≤ l ∧ l ≤ 9223372036854775807) (w : World) : Calls Tryz.prog 84 #[.agg #[.int .i64 a, .int .i64 l, .int .i64 s, .int .i64 psi]] w fun e w' => e = .returned (planV ⟨a, IntKind.i64.wrap (l + 2), s⟩) ∧ Gr [] w w' := by
  have HG := Lib.hid (((Gr.refl [] w).alloc (Obj.cells #[.int .i64 a, .int .i64 l, .int .i64 s, .int .i64 psi] 107)).alloc (Obj.cells #[.int .i64 0, .int .i64 0, .int .i64 0] 158))
  obtain ⟨x, hx⟩ : ∃ x : Int, IntKind.i64.wrap (l + 2) = x := ⟨_, rfl⟩
  unfold planV
  rw [hx]
  clear hl
  go_enter Tryz.func84, Tryz.ntmps84
  go_wp2_with fail
  exact bodyPost_ret (v := .agg #[.int .i64 a, .int .i64 x, .int .i64 s]) (by simp [results, Tryz.results84, go_sem]) rfl ⟨rfl, ((Gr.refl [] w).alloc _).alloc _⟩
def rcheckG (a l s psi n : Int) : Int := if 1 ≤ l ∧ l ≤ 1024 ∧ 1 ≤ psi ∧ psi ≤ 65535 then checkZ ⟨a, l + 2, s⟩ n else 2
set_option maxRecDepth 100000 in
set_option maxHeartbeats 8000000 in
theorem rcheck_gen (a l s psi n : Int) (w : World) : Calls Tryz.prog 83 #[.agg #[.int .i64 a, .int .i64 l, .int .i64 s, .int .i64 psi], .int .i64 n] w fun e w' => e = .returned (.int .i64 (rcheckG a l s psi n)) ∧ Gr [] w w' := by
  have hh := Holds.new w #[.int .i64 a, .int .i64 l, .int .i64 s, .int .i64 psi] 107
  obtain ⟨c0, c1, c2, c3⟩ := (show (w.alloc (Obj.cells #[.int .i64 a, .int .i64 l, .int .i64 s, .int .i64 psi] 107)).cell? ⟨w.heap.size, 0, none⟩ = some (.int .i64 a) ∧ (w.alloc (Obj.cells #[.int .i64 a, .int .i64 l, .int .i64 s, .int .i64 psi] 107)).cell? ⟨w.heap.size, 1, none⟩ = some (.int .i64 l) ∧ (w.alloc (Obj.cells #[.int .i64 a, .int .i64 l, .int .i64 s, .int .i64 psi] 107)).cell? ⟨w.heap.size, 2, none⟩ = some (.int .i64 s) ∧ (w.alloc (Obj.cells #[.int .i64 a, .int .i64 l, .int .i64 s, .int .i64 psi] 107)).cell? ⟨w.heap.size, 3, none⟩ = some (.int .i64 psi) from ⟨hh.cell 0, hh.cell 1, hh.cell 2, hh.cell 3⟩)
  have HG := Lib.hid ((Gr.refl [] w).alloc (Obj.cells #[.int .i64 a, .int .i64 l, .int .i64 s, .int .i64 psi] 107))
  obtain ⟨w1, hw1⟩ : ∃ w1, w1 = w.alloc (Obj.cells #[.int .i64 a, .int .i64 l, .int .i64 s, .int .i64 psi] 107) := ⟨_, rfl⟩
  obtain ⟨pb, hpb⟩ : ∃ pb, pb = w.heap.size := ⟨_, rfl⟩
  rw [← hpb, ← hw1] at c0 c1 c2 c3
  rw [← hw1] at HG
  clear hh
  obtain ⟨r, hr⟩ : ∃ r, r = rcheckG a l s psi n := ⟨_, rfl⟩
  have HR := Lib.hid hr
  rw [← hr]
  clear hr
  by_cases i1 : l < 1
  · have hr : r = 2 := by rw [HR.out]; unfold rcheckG; rw [if_neg (by omega)]
    subst hr
    go_enter Tryz.func83, Tryz.ntmps83
    go_upto_region 1 with fail
    rw [← hw1, ← hpb]
    clear hw1 hpb
    go_wp2_with fail
    go_ret
    exact ⟨rfl, HG.out⟩
  · by_cases i2 : 1024 < l
    · have hr : r = 2 := by rw [HR.out]; unfold rcheckG; rw [if_neg (by omega)]
      subst hr
      go_enter Tryz.func83, Tryz.ntmps83
      go_upto_region 1 with fail
      rw [← hw1, ← hpb]
      clear hw1 hpb
      go_wp2_with fail
      go_ret
      exact ⟨rfl, HG.out⟩
    · by_cases i3 : psi < 1
      · have hr : r = 2 := by rw [HR.out]; unfold rcheckG; rw [if_neg (by omega)]
        subst hr
        go_enter Tryz.func83, Tryz.ntmps83
        go_upto_region 1 with fail
        rw [← hw1, ← hpb]
        clear hw1 hpb
        go_wp2_with fail
        go_ret
        exact ⟨rfl, HG.out⟩
      · by_cases i4 : 65535 < psi
        · have hr : r = 2 := by rw [HR.out]; unfold rcheckG; rw [if_neg (by omega)]
          subst hr
          go_enter Tryz.func83, Tryz.ntmps83
          go_upto_region 1 with fail
          rw [← hw1, ← hpb]
          clear hw1 hpb
          go_wp2_with fail
          go_ret
          exact ⟨rfl, HG.out⟩
        · have hr : r = checkZ ⟨a, l + 2, s⟩ n := by rw [HR.out]; unfold rcheckG; rw [if_pos (by omega)]
          have HB := Lib.hid (fun W => bank_gen a l s psi (by omega) W)
          rw [show IntKind.i64.wrap (l + 2) = l + 2 from IntWalk.i64_in _ (by omega)] at HB
          have HC := Lib.hid (fun W => check_any ⟨a, l + 2, s⟩ n W)
          rw [← hr] at HC
          obtain ⟨bv, hbv⟩ : ∃ bv, bv = planV ⟨a, l + 2, s⟩ := ⟨_, rfl⟩
          rw [← hbv] at HB HC
          clear hr hbv
          go_enter Tryz.func83, Tryz.ntmps83
          go_upto_region 1 with fail
          rw [← hw1, ← hpb]
          clear hw1 hpb
          go_wp2_with fail
          refine (HB.out _).mono ?_
          rintro e w2 ⟨rfl, g2⟩
          have HG2 := Lib.hid (HG.out.trans g2)
          clear g2
          go_wp2_with fail
          refine (HC.out _).mono ?_
          rintro e w3 ⟨rfl, b3⟩
          have HG3 := Lib.hid (HG2.out.nextB b3)
          clear b3
          go_wp2_with fail
          go_ret
          exact ⟨rfl, HG3.out⟩
end Go.Proofs.YtjbhallhmnahbaaGreat

/-
  Layer 9: a config's region, Size, Check.
-/
namespace Go.Proofs.YtjbhallhmnahbaaGreat
open Go.RowKit
set_option linter.unusedVariables false

def regV (C : CfgZ) (k : Int) : Value := .agg #[.int .i64 (1 + k * regS C), .int .i64 C.l, .int .i64 C.s, .int .i64 C.psi]
theorem mul_b (C : CfgZ) {k : Int} (h0 : 0 ≤ k) (h1 : k ≤ 16) : 0 ≤ k * regS C ∧ k * regS C ≤ 17568 := by
  have hb := regS_b C
  have a1 : 0 ≤ k * regS C := Int.mul_nonneg h0 hb.1
  have a2 : k * regS C ≤ 16 * 1098 := Int.mul_le_mul h1 hb.2 hb.1 (by omega)
  omega
set_option maxRecDepth 100000 in
set_option maxHeartbeats 8000000 in
theorem region_any (C : CfgZ) (hC : wfC C) (k : Int) (h0 : 0 ≤ k) (h1 : k ≤ 16) (w : World) : Calls Tryz.prog 47 #[cfgV C, .int .i64 k] w fun e w' => e = .returned (regV C k) ∧ Gr [] w w' := by
  obtain ⟨b0, b1⟩ := mul_b C h0 h1
  have hb := regS_b C
  have HBk := Lib.hid (fun W => bank_gen 1 C.l C.s C.psi hC.1 W)
  have HSz := Lib.hid (fun W => size_any ⟨1, IntKind.i64.wrap (C.l + 2), C.s⟩ W)
  obtain ⟨bv, hbv⟩ : ∃ bv, bv = planV ⟨1, IntKind.i64.wrap (C.l + 2), C.s⟩ := ⟨_, rfl⟩
  rw [← hbv] at HBk HSz
  obtain ⟨z, hz⟩ : ∃ z, z = regS C := ⟨_, rfl⟩
  rw [show sizeZ ⟨1, IntKind.i64.wrap (C.l + 2), C.s⟩ = z from hz.symm] at HSz
  rw [← hz] at b0 b1 hb
  obtain ⟨kz, hkz⟩ : ∃ kz, kz = k * z := ⟨_, rfl⟩
  rw [← hkz] at b0 b1
  have i1 : IntKind.i64.wrap (k * z) = kz := by rw [← hkz]; exact IntWalk.i64_in _ (by omega)
  have i2 : IntKind.i64.wrap (1 + kz) = 1 + kz := IntWalk.i64_in _ (by omega)
  have HV := Lib.hid (show regV C k = .agg #[.int .i64 (1 + kz), .int .i64 C.l, .int .i64 C.s, .int .i64 C.psi] by unfold regV; rw [← hz, ← hkz])
  have h1 := (((Gr.refl [] w).alloc (Obj.cells (cfgRow C) 37)).alloc (Obj.cells #[.int .i64 0, .int .i64 0, .int .i64 0, .int .i64 0] 107))
  have hn := Holds.new ((w.alloc (Obj.cells (cfgRow C) 37)).alloc (Obj.cells #[.int .i64 0, .int .i64 0, .int .i64 0, .int .i64 0] 107)) #[.int .i64 1, .int .i64 C.l, .int .i64 C.s, .int .i64 C.psi] 107
  have hq := (Holds.new (w.alloc (Obj.cells (cfgRow C) 37)) #[.int .i64 0, .int .i64 0, .int .i64 0, .int .i64 0] 107).alloc (Obj.cells #[.int .i64 1, .int .i64 C.l, .int .i64 C.s, .int .i64 C.psi] 107)
  simp only [World.size_alloc] at hn hq
  have H := Lib.hid (And.intro hn (And.intro hq (h1.alloc (Obj.cells #[.int .i64 1, .int .i64 C.l, .int .i64 C.s, .int .i64 C.psi] 107))))
  rw [HV.out]
  unfold cfgV
  unfold cfgRow at H
  clear hC hbv hz hkz hb h1 hn hq HV
  go_enter Tryz.func47, Tryz.ntmps47
  go_upto_region 2 with fail
  generalize ((w.alloc (Obj.cells #[.int .i64 C.r, .int .i64 C.l, .int .i64 C.s, .int .i64 C.psi, .int .u64 (C.key : Int)] 37)).alloc (Obj.cells #[.int .i64 0, .int .i64 0, .int .i64 0, .int .i64 0] 107)).alloc (Obj.cells #[.int .i64 1, .int .i64 C.l, .int .i64 C.s, .int .i64 C.psi] 107) = w1 at *
  have k0 := kp_cell (H.out.1.cell 0)
  have k1 := kp_cell (H.out.1.cell 1)
  have k2 := kp_cell (H.out.1.cell 2)
  have k3 := kp_cell (H.out.1.cell 3)
  have hne := kp_ne w1
  refine wp_region_kp_tail 9 (by kernel_rfl) (by kernel_rfl) ?_
  simp only [List.take_succ_cons, List.take_zero, List.drop_succ_cons, List.drop_zero]
  repeat (go_big_quiet_step ((rename_i x; first
    | with_reducible exact kp_call x ((HBk.out _).mono fun _ _ q => ⟨q.1, q.2.below0⟩)
    | with_reducible exact kp_call x (HSz.out _))))
  with_reducible refine wpQuiet_nil ?_
  rintro _ ⟨y, rfl⟩
  have gy : Gr [] w1 y.w := Gr.ofBelow (cs := []) y.h
  have H2 := Lib.hid (And.intro (H.out.1.gr0 gy) (And.intro (H.out.2.1.gr0 gy) (H.out.2.2.trans gy)))
  clear k0 k1 k2 k3 hne gy H HBk HSz
  generalize y.w = w2 at *
  clear y
  obtain ⟨pb, hpb⟩ : ∃ pb, w.heap.size + 1 + 1 = pb := ⟨_, rfl⟩
  obtain ⟨rb, hrb⟩ : ∃ rb, w.heap.size + 1 = rb := ⟨_, rfl⟩
  have HN := Lib.hid (show rb ≠ pb ∧ w.heap.size ≤ rb ∧ w.heap.size ≤ pb by omega)
  rw [hpb, hrb] at H2
  rw [hpb, hrb]
  clear hpb hrb
  have c0 : w2.cell? ⟨pb, 0, none⟩ = some (.int .i64 1) := H2.out.1.cell 0
  have f0 := H2.out.1.frozen 0
  go_upto_region 3 with fail
  have H3 := Lib.hid (And.intro (H2.out.1.set 0 (.int .i64 (1 + kz))) (And.intro (H2.out.2.1.far (a := ⟨pb, 0, none⟩) HN.out.1 (.int .i64 (1 + kz))) (H2.out.2.2.setCell (p := ⟨pb, 0, none⟩) (.inr HN.out.2.2) (.int .i64 (1 + kz)))))
  clear c0 f0
  generalize w2.setCell ⟨pb, 0, none⟩ (.int .i64 (1 + kz)) = w3 at *
  have c0 : w3.cell? ⟨pb, 0, none⟩ = some (.int .i64 (1 + kz)) := H3.out.1.cell 0
  have c1 : w3.cell? ⟨pb, 1, none⟩ = some (.int .i64 C.l) := H3.out.1.cell 1
  have c2 : w3.cell? ⟨pb, 2, none⟩ = some (.int .i64 C.s) := H3.out.1.cell 2
  have c3 : w3.cell? ⟨pb, 3, none⟩ = some (.int .i64 C.psi) := H3.out.1.cell 3
  have r0 : w3.cell? ⟨rb, 0, none⟩ = some (.int .i64 0) := H3.out.2.1.cell 0
  have r1 : w3.cell? ⟨rb, 1, none⟩ = some (.int .i64 0) := H3.out.2.1.cell 1
  have r2 : w3.cell? ⟨rb, 2, none⟩ = some (.int .i64 0) := H3.out.2.1.cell 2
  have r3 : w3.cell? ⟨rb, 3, none⟩ = some (.int .i64 0) := H3.out.2.1.cell 3
  have f0 := H3.out.2.1.frozen 0
  have f1 := H3.out.2.1.frozen 1
  have f2 := H3.out.2.1.frozen 2
  have f3 := H3.out.2.1.frozen 3
  have hq : w.heap.size ≤ rb := HN.out.2.1
  have HG := Lib.hid ((((H3.out.2.2.setCell (p := ⟨rb, 0, none⟩) (.inr hq) (.int .i64 (1 + kz))).setCell (p := ⟨rb, 1, none⟩) (.inr hq) (.int .i64 C.l)).setCell (p := ⟨rb, 2, none⟩) (.inr hq) (.int .i64 C.s)).setCell (p := ⟨rb, 3, none⟩) (.inr hq) (.int .i64 C.psi))
  clear hq
  go_wp2_with fail
  exact bodyPost_ret (v := .agg #[.int .i64 (1 + kz), .int .i64 C.l, .int .i64 C.s, .int .i64 C.psi]) (by simp [results, Tryz.results47, go_sem, *]) rfl ⟨rfl, HG.out⟩
end Go.Proofs.YtjbhallhmnahbaaGreat
