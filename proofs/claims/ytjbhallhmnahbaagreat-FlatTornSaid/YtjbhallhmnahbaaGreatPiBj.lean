/-
  PiBj: FlVb, FlZb.
-/
import Derived.Test.YtjbhallhmnahbaaGreatPiBi
import Derived.Test.YtjbhallhmnahbaaGreatPiBf
import Derived.Test.YtjbhallhmnahbaaGreatPiAq

set_option linter.unusedVariables false

/-
  Layer 9, pure: a list at work on a calm device, told by what its lines have.
-/
namespace Go.Proofs.YtjbhallhmnahbaaGreat
open Go.RowKit
set_option linter.unusedVariables false

/-- What can be seen of a list besides its lines: where they are, how many spares are used, how often regions moved. -/
structure FlV where
  W : Nat → Nat
  U : Nat → Nat
  J : Nat → Nat
def vOf (C : CfgZ) (B : Nat → BkS) (j : Nat → Nat) (i : Nat → Nat) : FlV := ⟨fun l => (placeP (bankR (regC C (qL C l))) (B (qL C l)) (slotJ (regC C (qL C l)) (j (qL C l)) (i l))).toNat, fun q => (B q).used, j⟩
/-- A list on a device that is calm; if g, none of its lines is bad. -/
structure FlD (C : CfgZ) (g : Bool) (F : Nat → Nat → Nat) (V : FlV) (N : Nat) (D : DevS) (B : Nat → BkS) (j : Nat → Nat) : Prop where
  calm : Calm D
  gd : g = true → D.bad = fun _ => false
  fit : sizeC C ≤ (D.n : Int)
  ls : ∃ G, LsC C D B j G ∧ ∀ l k, l < cR C * cL C → k < 8 → G (qL C l) (iL C l) k = F l k
  vs : V = vOf C B j (iL C)
  mv : ∀ q, q < cR C → j q ≤ N
  bd : Bd D N
section
variable {C : CfgZ} {g : Bool} {F : Nat → Nat → Nat} {V : FlV} {N : Nat} {D E : DevS} {B : Nat → BkS} {j : Nat → Nat}
theorem FlD.pos (hC : OkC C) (h : FlD C g F V N D B j) {l : Nat} (hl : l < cR C * cL C) : placeP (bankR (regC C (qL C l))) (B (qL C l)) (slotJ (regC C (qL C l)) (j (qL C l)) (iL C l)) = (V.W l : Int) ∧ (regC C (qL C l)).a + tabZ (bankR (regC C (qL C l))) ≤ (V.W l : Int) ∧ (V.W l : Int) < (regC C (qL C l)).a + sizeZ (bankR (regC C (qL C l))) ∧ V.W l < D.n := by
  obtain ⟨G, L, _⟩ := h.ls
  obtain ⟨hq, hi⟩ := qi_in hC hl
  obtain ⟨r1, r2, r3, r4, r5, r6, r7, r8⟩ := hC.reg hq
  have hle := slotN_le (j := j (qL C l)) (i := iL C l) r1.l1
  have hin : inP (bankR (regC C (qL C l))) (slotJ (regC C (qL C l)) (j (qL C l)) (iL C l)) := by
    rw [slotJ_N _ _ _ r1.l1]
    exact inR _ (by omega) (by omega)
  have T := (L.rg _ hq).ti
  obtain ⟨l0, p0, p1, p2, p3⟩ := T.place r1.ok hin
  have hu := T.us
  have e : V.W l = l0 := by rw [h.vs]; show (placeP _ _ _).toNat = l0; rw [p0, Int.toNat_natCast]
  obtain ⟨q1, q2, q3, q4, q5, q6⟩ := rg_nums r1
  have hba : (bankR (regC C (qL C l))).a = (regC C (qL C l)).a := rfl
  have hbl : (bankR (regC C (qL C l))).l = ((regC C (qL C l)).l : Int) + 2 := rfl
  have hbs : (bankR (regC C (qL C l))).s = (regC C (qL C l)).s := rfl
  unfold spareP at p3
  rw [e, p0]
  exact ⟨rfl, by omega, by omega, p1⟩
theorem FlD.inj (hC : OkC C) (h : FlD C g F V N D B j) {l l2 : Nat} (hl : l < cR C * cL C) (hl2 : l2 < cR C * cL C) (e : V.W l = V.W l2) : l = l2 := by
  obtain ⟨a1, a2, a3, _⟩ := h.pos hC hl
  obtain ⟨b1, b2, b3, _⟩ := h.pos hC hl2
  obtain ⟨hq, hi⟩ := qi_in hC hl
  obtain ⟨hq2, hi2⟩ := qi_in hC hl2
  by_cases c : qL C l = qL C l2
  · obtain ⟨G, L, _⟩ := h.ls
    obtain ⟨r1, r2, r3, r4, r5, r6, r7, r8⟩ := hC.reg hq
    have hle := slotN_le (j := j (qL C l)) (i := iL C l) r1.l1
    have hle2 := slotN_le (j := j (qL C l)) (i := iL C l2) r1.l1
    rw [← c] at b1
    rw [slotJ_N _ _ _ r1.l1] at a1 b1
    have hs := place_inj (L.rg _ hq).ti (inR (regC C (qL C l)) (z := ((slotN (regC C (qL C l)).l (j (qL C l)) (iL C l) : Nat) : Int)) (by omega) (by omega)) (inR (regC C (qL C l)) (z := ((slotN (regC C (qL C l)).l (j (qL C l)) (iL C l2) : Nat) : Int)) (by omega) (by omega)) (a1.trans (by rw [e, b1]))
    exact qi_inj hC hl hl2 c (slotN_inj (j := j (qL C l)) r1.l1 (by rw [r4]; exact hi) (by rw [r4]; exact hi2) (by omega))
  · have ha := hC.apart hq hq2 c
    have ha' : (regC C (qL C l)).a + sizeZ (bankR (regC C (qL C l))) ≤ (regC C (qL C l2)).a ∨ (regC C (qL C l2)).a + sizeZ (bankR (regC C (qL C l2))) ≤ (regC C (qL C l)).a := ha
    obtain ⟨r1, _⟩ := hC.reg hq
    obtain ⟨r1', _⟩ := hC.reg hq2
    obtain ⟨q1, q2, q3, q4, q5, q6⟩ := rg_nums r1
    obtain ⟨q1', q2', q3', q4', q5', q6'⟩ := rg_nums r1'
    omega
/-- A line reads what it has. -/
theorem FlD.read (hC : OkC C) (h : FlD C g F V N D B j) (hm : ∀ x, D.med x < 18446744073709551616) {l : Nat} (hl : l < cR C * cL C) : readR D (bankR (regC C (qL C l))) (B (qL C l)) (slotJ (regC C (qL C l)) (j (qL C l)) (iL C l)) = (lnF F l, 0) ∧ (lnF F l).size = 64 ∧ ∀ k, k < 8 → wdL (lnF F l).data.toList k = F l k := by
  obtain ⟨G, L, hF⟩ := h.ls
  obtain ⟨hq, hi⟩ := qi_in hC hl
  obtain ⟨r1, r2, r3, r4, _⟩ := hC.reg hq
  have hle := slotN_le (j := j (qL C l)) (i := iL C l) r1.l1
  obtain ⟨T, t1, t2, t3⟩ := cnt_read (L.rg _ hq).ti r1.ok hm (inR (regC C (qL C l)) (z := ((slotN (regC C (qL C l)).l (j (qL C l)) (iL C l) : Nat) : Int)) (by omega) (by omega))
  have hT : ∀ k, k < 8 → wdL T.data.toList k = F l k := fun k hk => by rw [t3 k hk, (L.rg _ hq).wd _ k (by rw [r4]; exact hi) hk, hF l k hl hk]
  have hx : ∃ t : ByteArray, t.size = 64 ∧ ∀ k, k < 8 → wdL t.data.toList k = F l k := ⟨T, t2, hT⟩
  have e : lnF F l = T := by
    unfold lnF
    rw [dif_pos hx]
    obtain ⟨s1, s2⟩ := Classical.choose_spec hx
    exact bytes_eq s1 t2 fun k hk => by rw [s2 k hk, hT k hk]
  rw [slotJ_N _ _ _ r1.l1, e]
  exact ⟨t1, t2, hT⟩
/-- Behind a write: the list, line l another one. -/
theorem FlD.next (hC : OkC C) (h : FlD C g F V N D B j) {l : Nat} (hl : l < cR C * cL C) {e : Int} {G0 : Int → (Nat → Nat) → Prop} {B' : BkS} {j' N' : Nat} {H : Nat → Nat} (hcE : Calm E) (hbE : Bd E N') (hN : N + 1 ≤ N')
    {Gf : Nat → Nat → Nat → Nat} (L : LsC C D B j Gf) (hGF : ∀ l k, l < cR C * cL C → k < 8 → Gf (qL C l) (iL C l) k = F l k)
    (k : RegOut (regC C (qL C l)) D (iL C l) (Gf (qL C l)) G0 (j (qL C l)) (j (qL C l) + 1) e E B' j') (he : e ≠ 6) (hH : ∀ X, G0 e X → IsW H X) :
    FlD C g (fun l2 k => if l2 = l then H k else F l2 k) (vOf C (updN B (qL C l) B') (updN j (qL C l) j') (iL C)) N' E (updN B (qL C l) B') (updN j (qL C l) j') := by
  obtain ⟨hq, hi⟩ := qi_in hC hl
  obtain ⟨r1, r2, r3, r4, _⟩ := hC.reg hq
  obtain ⟨k1, k2⟩ := k.live he
  rw [calm_bare hcE] at k2
  have hr : RgC (regC C (qL C l)) E B' j' (fun i k => if i = iL C l then H k else Gf (qL C l) i k) := ⟨k2.ti, k2.reg, fun i x hil hx => by
    by_cases c : i = iL C l
    · rw [if_pos c, c]
      exact hH _ k2.got x hx
    · rw [if_neg c]
      exact k2.wd i x hil hx c⟩
  refine ⟨hcE, fun hg => by rw [k.near.bad]; exact h.gd hg, by rw [k.near.n]; exact h.fit, ⟨_, LsC.other hC (by rw [calm_bare h.calm]; exact L) hq hcE k.near.n k.near.bad (fun x hx => k.near.live k1 hx) hr, fun l2 x hl2 hx => ?_⟩, rfl, fun q hq1 => ?_, hbE⟩
  · by_cases c : qL C l2 = qL C l
    · rw [c, updN_same]
      by_cases d : iL C l2 = iL C l
      · rw [if_pos d, if_pos (qi_inj hC hl2 hl c d)]
      · rw [if_neg d, if_neg (fun e => d (by rw [e])), ← c]
        exact hGF l2 x hl2 hx
    · rw [updN_other _ _ c, if_neg (fun e => c (by rw [e]))]
      exact hGF l2 x hl2 hx
  · by_cases c : q = qL C l
    · subst c
      rw [updN_same]
      have := h.mv _ hq1
      have := k.jl
      omega
    · rw [updN_other _ _ c]
      have := h.mv _ hq1
      omega
end
end Go.Proofs.YtjbhallhmnahbaaGreat

/-
  Layer 9, pure: what a torn head says; a write of a region none of whose lines is bad, wherever the power fails.
-/
namespace Go.Proofs.YtjbhallhmnahbaaGreat
open Go.RowKit
set_option linter.unusedVariables false

theorem drop_take2 (l : List UInt8) (i : Nat) (hi : i + 2 ≤ 8) : (l.drop (8 + i)).take 2 = (((l.drop 8).take 8).drop i).take 2 := by
  rw [List.drop_take, List.take_take, List.drop_drop, Nat.min_eq_left (by omega)]
theorem par_word1 {l m : List UInt8} (hl : l.length = 64) (hm : m.length = 64) (h : wdL l 1 = wdL m 1) : (parZ l).r = (parZ m).r ∧ (parZ l).l = (parZ m).l ∧ (parZ l).s = (parZ m).s ∧ (parZ l).psi = (parZ m).psi := by
  have e : (l.drop 8).take 8 = (m.drop 8).take 8 := getL_inj8 (by rw [List.length_take, List.length_drop]; omega) (by rw [List.length_take, List.length_drop]; omega) h
  have k := fun i hi => (drop_take2 l i hi).trans ((congrArg (fun x => (List.drop i x).take 2) e).trans (drop_take2 m i hi).symm)
  have k0 := k 0 (by omega)
  have k2 := k 2 (by omega)
  have k4 := k 4 (by omega)
  have k6 := k 6 (by omega)
  unfold parZ
  simp only
  exact ⟨by rw [show (8 : Nat) = 8 + 0 from rfl, k0], by rw [show (10 : Nat) = 8 + 2 from rfl, k2], by rw [show (12 : Nat) = 8 + 4 from rfl, k4], by rw [show (14 : Nat) = 8 + 6 from rfl, k6]⟩
theorem zero_par : (parZ (List.replicate 64 0)).r = 0 := by decide +kernel
theorem zero_word {k : Nat} (h : k < 8) : wdL (List.replicate 64 0) k = 0 := by
  rcases (show k = 0 ∨ k = 1 ∨ k = 2 ∨ k = 3 ∨ k = 4 ∨ k = 5 ∨ k = 6 ∨ k = 7 by omega) with rfl | rfl | rfl | rfl | rfl | rfl | rfl | rfl <;> decide +kernel
theorem head_word0 (C : CfgZ) : wdL (headL C) 0 ≠ 0 := by
  have e : ((headL C).drop (8 * 0)).take 8 = magL := by
    unfold headL preL
    rw [Nat.mul_zero, List.drop_zero, List.append_assoc]
    exact List.take_left' rfl
  unfold wdL
  rw [e]
  decide +kernel
section
variable {C : CfgZ} {D0 D' : DevS} {S : ByteArray}
/-- Where a Make was cut: no list, or one whose lines are noughts. -/
theorem torn_open {n : Int} (hC : OkC C) (hn : n ≤ 8192) (hz : ∀ x, x < 8 → D0.med x = 0) (h : TornM C D0 D') (hS : S.size = 64) (hw : ∀ k, k < 8 → wdL S.data.toList k = D'.med k) :
    (headS (parZ S.data.toList) ≠ S ∨ checkC (parZ S.data.toList) n ≠ 0) ∨ ∃ C' : CfgZ, (C'.r = C.r ∧ C'.l = C.l ∧ C'.s = C.s ∧ C'.psi = C.psi) ∧ OkC C' ∧ sizeC C' ≤ n ∧ LsC C' D' (fun _ => B0) (fun _ => 0) (fun _ => Z9) := by
  by_cases hh : headS (parZ S.data.toList) = S
  · by_cases hk : checkC (parZ S.data.toList) n = 0
    · right
      obtain ⟨ok, hs⟩ := OkC.of (parZ_wf S.data.toList).key hn hk
      obtain ⟨Q, hQ⟩ : ∃ Q, Q = parZ S.data.toList := ⟨_, rfl⟩
      have hSl : S.data.toList.length = 64 := hS
      rw [← hQ] at ok hs hh
      have hd : ∀ k, k < 8 → D'.med k = wdL (headL Q) k := fun k hk => by rw [← hw k hk, ← hh]; rfl
      have h1 : wdL S.data.toList 1 ≠ 0 := fun e => by
        have := (par_word1 hSl (by simp) (e.trans (zero_word (k := 1) (by omega)).symm)).1
        rw [← hQ, zero_par] at this
        have := ok.r1
        omega
      rcases h with h | ⟨hr, hw2⟩
      · have := hd 0 (by omega)
        have h0 := head_word0 Q
        rcases h 0 (by omega) with c | c
        · rw [c, hz 0 (by omega)] at this
          omega
        · omega
      · rcases hw2 1 (by omega) with c | c
        · exact absurd ((hw 1 (by omega)).trans c) h1
        · obtain ⟨f1, f2, f3, f4⟩ := par_word1 hSl (headL_len C) ((hw 1 (by omega)).trans c)
          rw [← hQ, parZ_head hC.wf.2] at f1 f2 f3 f4
          refine ⟨Q, ⟨f1, f2, f3, f4⟩, ok, hs, hd, fun q hq => ?_⟩
          have e : regC Q q = regC C q := by unfold regC; rw [f2, f3, f4]
          rw [e]
          exact hr q (by unfold cR at hq ⊢; rwa [f1] at hq)
    · exact .inl (.inr hk)
  · exact .inl (.inl hh)
end
section
variable {P : PlanR} {D : DevS} {B : BkS} {j i0 : Nat} {F : Nat → Nat → Nat}
theorem mov_good (hP : OkR P) (hd : Live D) (hb : D.bad = fun _ => false) (hm : ∀ x, D.med x < 18446744073709551616) (h : RgC P (bare D) B j F) (hj : j < 4294967295) : (movZ P D B j).1 = 0 ∨ (movZ P D B j).1 = 6 := by
  have hle3 : toN P.l j ≤ P.l := by unfold toN; omega
  have hle4 : fromN P.l j ≤ P.l := by unfold fromN; split <;> omega
  have hif : inP (bankR P) (fromI P j) := by rw [fromI_N]; exact inR P (by omega) (by omega)
  have hit : inP (bankR P) (toI P j) := by rw [toI_N]; exact inR P (by omega) (by omega)
  have hir : inP (bankR P) ((P.l : Int) + 1) := inR P (by omega) (by omega)
  obtain ⟨lf, pf, _, _, _⟩ := h.ti.place hP.ok hif
  have hread : readR D (bankR P) B (fromI P j) = (⟨(getT D lf).toArray⟩, 0) := by
    unfold readR
    rw [if_pos hif, hd.off, pf, Int.toNat_natCast]
    rfl
  have hT64 := line_size D lf
  obtain ⟨T, hT⟩ : ∃ T : ByteArray, T = ⟨(getT D lf).toArray⟩ := ⟨_, rfl⟩
  unfold movZ
  rw [hread]
  rw [← hT] at hT64 ⊢
  simp only
  obtain ⟨l1, e1, D1, B1, p1, w1, x1⟩ := write_last h.ti hd hP.ok hit hT64
  obtain ⟨_, _, _, _, _, g1⟩ := write_good h.ti hd hb hP.ok hit hT64
  obtain ⟨n1, _, _⟩ := x1.near hP.ok h.ti hit p1
  have he1 : e1 = 0 ∨ e1 = 6 := by
    rcases g1 with ⟨E, q, _⟩ | ⟨E, q, _⟩
    · rw [w1] at q; cases q; exact .inl rfl
    · rw [w1] at q; cases q; exact .inr rfl
  rw [w1]
  simp only
  rw [toI_N] at p1 x1
  by_cases c1 : e1 = 0
  · rcases x1 with ⟨_, v1, y1⟩ | ⟨z1, _⟩ | ⟨z1, _⟩
    · obtain ⟨r1, r2⟩ := h.to hP p1 y1
      have hreg8 : ∀ l : Nat, placeP (bankR P) B1 ((P.l : Int) + 1) = (l : Int) → ∀ k, k < 8 → D1.med (8 * l + k) < 18446744073709551616 := fun l hl k hk => by
        have := (y1.cnt h.ti hP.ok (inR P (by omega) (by omega)) p1).1 ((P.l : Int) + 1) hir (by omega) k hk
        unfold cntZ at this
        rw [hl, Int.toNat_natCast] at this
        rw [show D1.med (8 * l + k) = (bare D1).med (8 * l + k) from rfl, this]
        exact hm _
      obtain ⟨hv1, hv2⟩ := pkN_val hP (j + 1) (by omega)
      obtain ⟨_, _, _, _, _, g2⟩ := ww_good (k := 0) (v := pkN P (j + 1)) r1.ti v1 (n1.bad.trans hb) hreg8 hv2 hP.ok hir (by omega)
      rw [if_pos c1]
      rcases g2 with ⟨E, q, _⟩ | ⟨E, q, _⟩
      · have q' : writeWordS (bankR P) ((P.l : Int) + 1) 0 (pkN P (j + 1)) D1 B1 = (0, E, B1) := q
        rw [q']
        exact .inl rfl
      · have q' : writeWordS (bankR P) ((P.l : Int) + 1) 0 (pkN P (j + 1)) D1 B1 = (6, E, B1) := q
        rw [q']
        exact .inr rfl
    · omega
    · omega
  · rw [if_neg c1]
    exact he1
theorem regline_good (hP : OkR P) (hd : Live D) (hb : D.bad = fun _ => false) (hm : ∀ x, D.med x < 18446744073709551616) (h : RgC P (bare D) B j F) (hj : j < 4294967295) (hi : i0 < P.l) {S : ByteArray} (hS : S.size = 64) (c : Nat) :
    (regZ P i0 (fun z => writeS (bankR P) z S) D B j c).1 = 0 ∨ (regZ P i0 (fun z => writeS (bankR P) z S) D B j c).1 = 6 := by
  have key : ∀ (D : DevS) (B : BkS) (j : Nat), Live D → D.bad = (fun _ => false) → RgC P (bare D) B j F → (writeS (bankR P) (slotJ P j i0) S D B).1 = 0 ∨ (writeS (bankR P) (slotJ P j i0) S D B).1 = 6 := fun D B j hd hb h => by
    have hle := slotN_le (j := j) (i := i0) hP.l1
    rw [slotJ_N P j i0 hP.l1]
    obtain ⟨_, _, _, _, _, g⟩ := write_good h.ti hd hb hP.ok (inR P (z := ((slotN P.l j i0 : Nat) : Int)) (by omega) (by omega)) hS
    rcases g with ⟨E, q, _⟩ | ⟨E, q, _⟩ <;> rw [q]
    · exact .inl rfl
    · exact .inr rfl
  unfold regZ
  by_cases hc : P.psi ≤ (c : Int)
  · rw [if_pos hc]
    have g := mov_good hP hd hb hm h hj
    obtain ⟨_, _, hn, hM⟩ := move_last hP hd hm h hj
    obtain ⟨m1, m2⟩ := move_out hP hd hm h hj
    rcases hM with ⟨a1, a2, a3⟩ | ⟨a1, a2⟩
    · rw [if_pos a1]
      exact key _ _ _ a2 (m1.bad.trans hb) a3
    · rw [if_neg (by omega)]
      exact g
  · rw [if_neg hc]
    exact key D B j hd hb h
end
/-- A list on a device, a line of which was written under a fuse, behind Boot. -/
theorem fl_torn {C : CfgZ} {F : Nat → Nat → Nat} {V : FlV} {N : Nat} {D : DevS} {B : Nat → BkS} {j : Nat → Nat} (hC : OkC C) (h : FlD C true F V N D B j) (hm : ∀ x, D.med x < 18446744073709551616) (hN : N < 500000) {l : Nat} (hl : l < cR C * cL C) {S : ByteArray} (hS : S.size = 64) (f : Int) (c : Nat) :
    ∃ X, regZ (regC C (qL C l)) (iL C l) (fun z => writeS (bankR (regC C (qL C l))) z S) { D with fuse := f } (B (qL C l)) (j (qL C l)) c = X ∧ (X.1 = 0 ∨ X.1 = 6) ∧
      ∀ L kp, IsPend X.2.1 L → ∀ N', N + 1 ≤ N' → Bd (bootD X.2.1 L kp) N' → ∃ (H : Nat → Nat) (V' : FlV) (B' : Nat → BkS) (j' : Nat → Nat), FlD C true (fun l2 k => if l2 = l then H k else F l2 k) V' N' (bootD X.2.1 L kp) B' j' ∧ GotL (F l) S X.1 H := by
  obtain ⟨Gf, L0, hF⟩ := h.ls
  obtain ⟨hq, hi⟩ := qi_in hC hl
  obtain ⟨r1, r2, r3, r4, r5, r6, r7, r8⟩ := hC.reg hq
  have hj := h.mv _ hq
  have hlv : Live { D with fuse := f } := ⟨h.calm.off, h.calm.buf⟩
  have hbr : bare { D with fuse := f } = D := by
    rw [← calm_bare h.calm]
    rfl
  have hrg : RgC (regC C (qL C l)) (bare { D with fuse := f }) (B (qL C l)) (j (qL C l)) (Gf (qL C l)) := by rw [hbr]; exact L0.rg _ hq
  have hb : ({ D with fuse := f } : DevS).bad = fun _ => false := h.gd rfl
  have hm' : ∀ x, ({ D with fuse := f } : DevS).med x < 18446744073709551616 := hm
  have ho := reg_line r1 hlv hm' hrg (by omega) (by rw [r4]; exact hi) hS c
  have hg := regline_good r1 hlv hb hm' hrg (by omega) (by rw [r4]; exact hi) hS c
  refine ⟨_, rfl, hg, fun L kp hL N' hN' hbd => ?_⟩
  obtain ⟨B'', j'', q1, q2⟩ := ho.boot L kp hL
  have hr : RgC (regC C (qL C l)) _ B'' j'' (fun i k => if i = iL C l then cntZ (bankR (regC C (qL C l))) B'' (bootD (regZ (regC C (qL C l)) (iL C l) (fun z => writeS (bankR (regC C (qL C l))) z S) { D with fuse := f } (B (qL C l)) (j (qL C l)) c).2.1 L kp) ((slotN (regC C (qL C l)).l j'' (iL C l) : Nat) : Int) k else Gf (qL C l) i k) := ⟨q2.ti, q2.reg, fun i x hil hx => by
    by_cases c : i = iL C l
    · rw [if_pos c, c]
    · rw [if_neg c]
      exact q2.wd i x hil hx c⟩
  have hgot := q2.got
  obtain ⟨H, hH⟩ : ∃ H : Nat → Nat, H = cntZ (bankR (regC C (qL C l))) B'' (bootD (regZ (regC C (qL C l)) (iL C l) (fun z => writeS (bankR (regC C (qL C l))) z S) { D with fuse := f } (B (qL C l)) (j (qL C l)) c).2.1 L kp) ((slotN (regC C (qL C l)).l j'' (iL C l) : Nat) : Int) := ⟨_, rfl⟩
  rw [← hH] at hr hgot
  have hFl : ∀ k, k < 8 → Gf (qL C l) (iL C l) k = F l k := fun k hk => hF l k hl hk
  have hcE := boot_calm (regZ (regC C (qL C l)) (iL C l) (fun z => writeS (bankR (regC C (qL C l))) z S) { D with fuse := f } (B (qL C l)) (j (qL C l)) c).2.1 L kp
  refine ⟨H, _, _, _, ⟨hcE, fun _ => ho.near.bad.trans hb, ?_, ⟨_, LsC.other hC (by rw [hbr]; exact L0) hq hcE ho.near.n ho.near.bad (fun x hx => ho.near.out L kp hL x hx) hr, fun l2 x hl2 hx => ?_⟩, rfl, fun q hq1 => ?_, hbd⟩, ?_⟩
  · have hn : (bootD (regZ (regC C (qL C l)) (iL C l) (fun z => writeS (bankR (regC C (qL C l))) z S) { D with fuse := f } (B (qL C l)) (j (qL C l)) c).2.1 L kp).n = D.n := ho.near.n
    rw [hn]
    exact h.fit
  · by_cases c : qL C l2 = qL C l
    · rw [c, updN_same]
      by_cases d : iL C l2 = iL C l
      · rw [if_pos d, if_pos (qi_inj hC hl2 hl c d)]
      · rw [if_neg d, if_neg (fun e => d (by rw [e])), ← c]
        exact hF l2 x hl2 hx
    · rw [updN_other _ _ c, if_neg (fun e => c (by rw [e]))]
      exact hF l2 x hl2 hx
  · by_cases c : q = qL C l
    · subst c
      rw [updN_same]
      omega
    · rw [updN_other _ _ c]
      have := h.mv _ hq1
      omega
  · obtain ⟨g1, g2, g3⟩ := hgot
    exact ⟨g1, fun q => fun k hk => (g2 q k hk).trans (hFl k hk), fun k hk => by rw [← hFl k hk]; exact g3 k hk⟩
end Go.Proofs.YtjbhallhmnahbaaGreat
