/-
  SkBg: FlZb, HuA.
-/
import Derived.Test.YtifekejcbhllpaaGreatSkBc
import Derived.Test.YtifekejcbhllpaaGreatSkAi
import Derived.Test.YtifekejcbhllpaaGreatSkAz
import Derived.Test.YtifekejcbhllpaaGreatSkBa
import Derived.Test.YtifekejcbhllpaaGreatSkBd
import Derived.Test.YtifekejcbhllpaaGreatSkBe

set_option linter.unusedVariables false

/-
  Layer 9, pure: what a torn head says; a write of a region none of whose lines is bad, wherever the power fails.
-/
namespace Go.Proofs.YtifekejcbhllpaaGreat
open Go.RowKit
set_option linter.unusedVariables false

theorem zero_word {k : Nat} (h : k < 8) : wdL (List.replicate 64 0) k = 0 := by
  rcases (show k = 0 ∨ k = 1 ∨ k = 2 ∨ k = 3 ∨ k = 4 ∨ k = 5 ∨ k = 6 ∨ k = 7 by omega) with rfl | rfl | rfl | rfl | rfl | rfl | rfl | rfl <;> decide +kernel
section
variable {C : CfgZ} {D0 D' : DevS} {S : ByteArray}
end
section
variable {P : PlanR} {D : DevS} {B : BkS} {j i0 : Nat} {F : Nat → Nat → Nat}
theorem mov_good (hP : OkR P) (hd : Live D) (hb : D.bad = fun _ => false) (hm : ∀ x, D.med x < 18446744073709551616) (h : RgC P (bare D) B j F) (hj : j < 4294967295) : (movZ P D B j).1 = 0 ∨ (movZ P D B j).1 = 6 := by
  have hle3 : toN P.l j ≤ P.l := by unfold toN; omega
  have hle4 : fromN P.l j ≤ P.l := by unfold fromN; split <;> omega
  have hif : inP (bankR P) (fromI P j) := by rw [fromI_N]; exact inR P (by omega) (by omega)
  have hit : inP (bankR P) (toI P j) := by rw [toI_N]; exact inR P (by omega) (by omega)
  have hir : inP (bankR P) ((P.l : Int) + 1) := inR P (by omega) (by omega)
  obtain ⟨lf, pf, _, _, _⟩ := h.ti.place hP.ok hif
  have hread : readR D (bankR P) B (fromI P j) = (⟨(getT D lf).toArray⟩, 0) := by
    unfold readR
    rw [if_pos hif, hd.off, pf, Int.toNat_natCast]
    rfl
  have hT64 := line_size D lf
  obtain ⟨T, hT⟩ : ∃ T : ByteArray, T = ⟨(getT D lf).toArray⟩ := ⟨_, rfl⟩
  unfold movZ
  rw [hread]
  rw [← hT] at hT64 ⊢
  simp only
  obtain ⟨l1, e1, D1, B1, p1, w1, x1⟩ := write_last h.ti hd hP.ok hit hT64
  obtain ⟨_, _, _, _, _, g1⟩ := write_good h.ti hd hb hP.ok hit hT64
  obtain ⟨n1, _, _⟩ := x1.near hP.ok h.ti hit p1
  have he1 : e1 = 0 ∨ e1 = 6 := by
    rcases g1 with ⟨E, q, _⟩ | ⟨E, q, _⟩
    · rw [w1] at q; cases q; exact .inl rfl
    · rw [w1] at q; cases q; exact .inr rfl
  rw [w1]
  simp only
  rw [toI_N] at p1 x1
  by_cases c1 : e1 = 0
  · rcases x1 with ⟨_, v1, y1⟩ | ⟨z1, _⟩ | ⟨z1, _⟩
    · obtain ⟨r1, r2⟩ := h.to hP p1 y1
      have hreg8 : ∀ l : Nat, placeP (bankR P) B1 ((P.l : Int) + 1) = (l : Int) → ∀ k, k < 8 → D1.med (8 * l + k) < 18446744073709551616 := fun l hl k hk => by
        have := (y1.cnt h.ti hP.ok (inR P (by omega) (by omega)) p1).1 ((P.l : Int) + 1) hir (by omega) k hk
        unfold cntZ at this
        rw [hl, Int.toNat_natCast] at this
        rw [show D1.med (8 * l + k) = (bare D1).med (8 * l + k) from rfl, this]
        exact hm _
      obtain ⟨hv1, hv2⟩ := pkN_val hP (j + 1) (by omega)
      obtain ⟨_, _, _, _, _, g2⟩ := ww_good (k := 0) (v := pkN P (j + 1)) r1.ti v1 (n1.bad.trans hb) hreg8 hv2 hP.ok hir (by omega)
      rw [if_pos c1]
      rcases g2 with ⟨E, q, _⟩ | ⟨E, q, _⟩
      · have q' : writeWordS (bankR P) ((P.l : Int) + 1) 0 (pkN P (j + 1)) D1 B1 = (0, E, B1) := q
        rw [q']
        exact .inl rfl
      · have q' : writeWordS (bankR P) ((P.l : Int) + 1) 0 (pkN P (j + 1)) D1 B1 = (6, E, B1) := q
        rw [q']
        exact .inr rfl
    · omega
    · omega
  · rw [if_neg c1]
    exact he1
theorem regline_good (hP : OkR P) (hd : Live D) (hb : D.bad = fun _ => false) (hm : ∀ x, D.med x < 18446744073709551616) (h : RgC P (bare D) B j F) (hj : j < 4294967295) (hi : i0 < P.l) {S : ByteArray} (hS : S.size = 64) (c : Nat) :
    (regZ P i0 (fun z => writeS (bankR P) z S) D B j c).1 = 0 ∨ (regZ P i0 (fun z => writeS (bankR P) z S) D B j c).1 = 6 := by
  have key : ∀ (D : DevS) (B : BkS) (j : Nat), Live D → D.bad = (fun _ => false) → RgC P (bare D) B j F → (writeS (bankR P) (slotJ P j i0) S D B).1 = 0 ∨ (writeS (bankR P) (slotJ P j i0) S D B).1 = 6 := fun D B j hd hb h => by
    have hle := slotN_le (j := j) (i := i0) hP.l1
    rw [slotJ_N P j i0 hP.l1]
    obtain ⟨_, _, _, _, _, g⟩ := write_good h.ti hd hb hP.ok (inR P (z := ((slotN P.l j i0 : Nat) : Int)) (by omega) (by omega)) hS
    rcases g with ⟨E, q, _⟩ | ⟨E, q, _⟩ <;> rw [q]
    · exact .inl rfl
    · exact .inr rfl
  unfold regZ
  by_cases hc : P.psi ≤ (c : Int)
  · rw [if_pos hc]
    have g := mov_good hP hd hb hm h hj
    obtain ⟨_, _, hn, hM⟩ := move_last hP hd hm h hj
    obtain ⟨m1, m2⟩ := move_out hP hd hm h hj
    rcases hM with ⟨a1, a2, a3⟩ | ⟨a1, a2⟩
    · rw [if_pos a1]
      exact key _ _ _ a2 (m1.bad.trans hb) a3
    · rw [if_neg (by omega)]
      exact g
  · rw [if_neg hc]
    exact key D B j hd hb h
end
end Go.Proofs.YtifekejcbhllpaaGreat

/-
  A list at work on a device that may lose its power (unless cm) or whose lines may be bad (unless g).
-/
namespace Go.Proofs.YtifekejcbhllpaaGreat
open Go.RowKit
set_option linter.unusedVariables false

theorem per_bdX {D : DevS} {c : Nat} (h : Bd D c) (S : Nat → Bool) (l : Nat) : 0 ≤ perWear D (linesOf S) l ∧ perWear D (linesOf S) l ≤ ((c + 1 : Nat) : Int) := by
  have := h.2 l
  unfold perWear
  split <;> omega
theorem boot_bdX {D : DevS} {c : Nat} {L : List Nat} {kp : Nat → Bool} (h : Bd D c) : Bd (bootD D L kp) (c + 1) := ⟨by have := h.1; show D.cnt ≤ c + 1; omega, fun l => per_bdX h _ l⟩
theorem loadV_bare {D : DevS} (h : Live D) (z : Nat) : loadV (bare D) z = loadV D z := by
  unfold loadV bare
  simp [h.buf]
theorem getT_bare {D : DevS} (h : Live D) (l : Nat) : getT (bare D) l = getT D l := by
  unfold getT
  simp only [loadV_bare h]
theorem readR_bare {D : DevS} (h : Live D) (p : PlanZ) (B : BkS) (i : Int) : readR (bare D) p B i = readR D p B i := by
  unfold readR
  rw [h.off, getT_bare h]
  rfl
section
variable {P : PlanR} {D : DevS} {B : BkS} {j i0 : Nat} {F : Nat → Nat → Nat}
/-- No line is bad: a write is done, or the power fails. -/
theorem reg_good {f : Int → DevS → BkS → Int × DevS × BkS} (hP : OkR P) (hd : Live D) (hb : D.bad = fun _ => false) (hm : ∀ x, D.med x < 18446744073709551616) (h : RgC P (bare D) B j F) (hj : j < 4294967295) (c : Nat)
    (key : ∀ (D : DevS) (B : BkS) (j : Nat), Live D → D.bad = (fun _ => false) → RgC P (bare D) B j F → (f (slotJ P j i0) D B).1 = 0 ∨ (f (slotJ P j i0) D B).1 = 6) :
    (regZ P i0 f D B j c).1 = 0 ∨ (regZ P i0 f D B j c).1 = 6 := by
  unfold regZ
  by_cases hc : P.psi ≤ (c : Int)
  · rw [if_pos hc]
    have g := mov_good hP hd hb hm h hj
    obtain ⟨_, _, hn, hM⟩ := move_last hP hd hm h hj
    obtain ⟨m1, m2⟩ := move_out hP hd hm h hj
    rcases hM with ⟨a1, a2, a3⟩ | ⟨a1, a2⟩
    · rw [if_pos a1]
      exact key _ _ _ a2 (m1.bad.trans hb) a3
    · rw [if_neg (by omega)]
      exact g
  · rw [if_neg hc]
    exact key D B j hd hb h
theorem regword_good (hP : OkR P) (hd : Live D) (hb : D.bad = fun _ => false) (hm : ∀ x, D.med x < 18446744073709551616) (h : RgC P (bare D) B j F) (hj : j < 4294967295) (hi : i0 < P.l) {k v : Nat} (hk : k < 8) (hv : v < 18446744073709551616) (hF : ∀ k, k < 8 → F i0 k < 18446744073709551616) (c : Nat) :
    (regZ P i0 (fun z => writeWordS (bankR P) z (k : Int) v) D B j c).1 = 0 ∨ (regZ P i0 (fun z => writeWordS (bankR P) z (k : Int) v) D B j c).1 = 6 := by
  refine reg_good hP hd hb hm h hj c fun D B j hd hb h => ?_
  have hle := slotN_le (j := j) (i := i0) hP.l1
  rw [slotJ_N P j i0 hP.l1]
  obtain ⟨_, _, _, _, _, g⟩ := ww_good (k := k) (v := v) h.ti hd hb (fun l hl k hk => by
    have := h.wd i0 k hi hk
    unfold cntZ at this
    rw [hl, Int.toNat_natCast] at this
    have t2 : D.med (8 * l + k) = F i0 k := this
    rw [t2]
    exact hF k hk) hv hP.ok (inR P (z := ((slotN P.l j i0 : Nat) : Int)) (by omega) (by omega)) hk
  rcases g with ⟨E, q, _⟩ | ⟨E, q, _⟩ <;> rw [q]
  · exact .inl rfl
  · exact .inr rfl
end
section
variable {C : CfgZ} {g cm : Bool} {F F' : Nat → Nat → Nat} {V : FlV} {N : Nat} {D E : DevS} {B : Nat → BkS} {j : Nat → Nat} {l : Nat} {e : Int} {G0 : Int → (Nat → Nat) → Prop} {B' : BkS} {j' N' : Nat} {H : Nat → Nat} {Gf : Nat → Nat → Nat → Nat}
/-- Behind a write, the power lasting. -/
theorem FlD.next2 (hC : OkC C) (h : FlD C g F V N (bare D) B j) (hl : l < cR C * cL C) (hbE : Bd E N') (hN : N + 1 ≤ N')
    (L : LsC C (bare D) B j Gf) (hGF : ∀ l k, l < cR C * cL C → k < 8 → Gf (qL C l) (iL C l) k = F l k)
    (k : RegOut (regC C (qL C l)) D (iL C l) (Gf (qL C l)) G0 (j (qL C l)) (j (qL C l) + 1) e E B' j') (he : e ≠ 6) (hH : ∀ X, G0 e X → IsW H X) :
    FlD C g (fun l2 k => if l2 = l then H k else F l2 k) (vOf C (updN B (qL C l) B') (updN j (qL C l) j') (iL C)) N' (bare E) (updN B (qL C l) B') (updN j (qL C l) j') ∧ Live E := by
  obtain ⟨hq, hi⟩ := qi_in hC hl
  obtain ⟨r1, r2, r3, r4, r5, r6, r7, r8⟩ := hC.reg hq
  obtain ⟨k1, k2⟩ := k.live he
  have hr : RgC (regC C (qL C l)) (bare E) B' j' (fun i k => if i = iL C l then H k else Gf (qL C l) i k) := ⟨k2.ti, k2.reg, fun i x hil hx => by
    by_cases c : i = iL C l
    · rw [if_pos c, c]
      exact hH _ k2.got x hx
    · rw [if_neg c]
      exact k2.wd i x hil hx c⟩
  refine ⟨⟨bare_calm E, fun hg => k.near.bad.trans (h.gd hg), ?_, ⟨_, LsC.other hC L hq (bare_calm E) k.near.n k.near.bad (fun x hx => k.near.live k1 hx) hr, fun l2 x hl2 hx => ?_⟩, rfl, fun q hq1 => ?_, hbE⟩, k1⟩
  · show sizeC C ≤ (E.n : Int)
    rw [k.near.n]
    exact h.fit
  · by_cases c : qL C l2 = qL C l
    · rw [c, updN_same]
      by_cases d : iL C l2 = iL C l
      · rw [if_pos d, if_pos (qi_inj hC hl2 hl c d)]
      · rw [if_neg d, if_neg (fun e => d (by rw [e])), ← c]
        exact hGF l2 x hl2 hx
    · rw [updN_other _ _ c, if_neg (fun e => c (by rw [e]))]
      exact hGF l2 x hl2 hx
  · by_cases c : q = qL C l
    · subst c
      rw [updN_same]
      have := h.mv _ hq1
      have := k.jl
      omega
    · rw [updN_other _ _ c]
      have := h.mv _ hq1
      omega
/-- Behind a write and Boot. -/
theorem FlD.torn2 (hC : OkC C) (h : FlD C g F V N (bare D) B j) (hl : l < cR C * cL C) (hN : N + 1 ≤ N')
    (L : LsC C (bare D) B j Gf) (hGF : ∀ l k, l < cR C * cL C → k < 8 → Gf (qL C l) (iL C l) k = F l k)
    (k : RegOut (regC C (qL C l)) D (iL C l) (Gf (qL C l)) G0 (j (qL C l)) (j (qL C l) + 1) e E B' j') {P : List Nat} {kp : Nat → Bool} (hP : IsPend E P) (hbd : Bd (bootD E P kp) N') :
    ∃ (H : Nat → Nat) (V' : FlV) (B2 : Nat → BkS) (j2 : Nat → Nat), FlD C g (fun l2 k => if l2 = l then H k else F l2 k) V' N' (bootD E P kp) B2 j2 ∧ G0 e H := by
  obtain ⟨hq, hi⟩ := qi_in hC hl
  obtain ⟨r1, r2, r3, r4, r5, r6, r7, r8⟩ := hC.reg hq
  have hj := h.mv _ hq
  obtain ⟨B'', j'', q1, q2⟩ := k.boot P kp hP
  have hr : RgC (regC C (qL C l)) (bootD E P kp) B'' j'' (fun i k => if i = iL C l then cntZ (bankR (regC C (qL C l))) B'' (bootD E P kp) ((slotN (regC C (qL C l)).l j'' (iL C l) : Nat) : Int) k else Gf (qL C l) i k) := ⟨q2.ti, q2.reg, fun i x hil hx => by
    by_cases c : i = iL C l
    · rw [if_pos c, c]
    · rw [if_neg c]
      exact q2.wd i x hil hx c⟩
  have hgot := q2.got
  obtain ⟨H, hH⟩ : ∃ H : Nat → Nat, H = cntZ (bankR (regC C (qL C l))) B'' (bootD E P kp) ((slotN (regC C (qL C l)).l j'' (iL C l) : Nat) : Int) := ⟨_, rfl⟩
  rw [← hH] at hr hgot
  refine ⟨H, _, _, _, ⟨boot_calm E P kp, fun hg => k.near.bad.trans (h.gd hg), ?_, ⟨_, LsC.other hC L hq (boot_calm E P kp) k.near.n k.near.bad (fun x hx => k.near.out P kp hP x hx) hr, fun l2 x hl2 hx => ?_⟩, rfl, fun q hq1 => ?_, hbd⟩, hgot⟩
  · show sizeC C ≤ (E.n : Int)
    rw [k.near.n]
    exact h.fit
  · by_cases c : qL C l2 = qL C l
    · rw [c, updN_same]
      by_cases d : iL C l2 = iL C l
      · rw [if_pos d, if_pos (qi_inj hC hl2 hl c d)]
      · rw [if_neg d, if_neg (fun e => d (by rw [e])), ← c]
        exact hGF l2 x hl2 hx
    · rw [updN_other _ _ c, if_neg (fun e => c (by rw [e]))]
      exact hGF l2 x hl2 hx
  · by_cases c : q = qL C l
    · subst c
      rw [updN_same]
      omega
    · rw [updN_other _ _ c]
      have := h.mv _ hq1
      omega
end
/-- A list at work: g: no line is bad; cm: the power lasts. -/
structure FLx (C : CfgZ) (A : FlA) (a : DevA) (g cm : Bool) (F : Nat → Nat → Nat) (V : FlV) (N : Nat) (w : World) : Prop where
  ok : OkC C
  st : ∃ (D : DevS) (B : Nat → BkS) (j c : Nat → Nat), FlD C g F V N (bare D) B j ∧ Live D ∧ (cm = true → Calm D) ∧ FlIs w A a C B (64 + N / 20) j c ∧ DevIs w a D
/-- A list whose device lost its power: what a Boot leaves. -/
def FLo (C : CfgZ) (a : DevA) (g : Bool) (P : (Nat → Nat → Nat) → Prop) (N : Nat) (w : World) : Prop :=
  ∃ E : DevS, DevIs w a E ∧ Bd E N ∧ ∀ L kp, IsPend E L → ∃ (F' : Nat → Nat → Nat) (V' : FlV) (B' : Nat → BkS) (j' : Nat → Nat), FlD C g F' V' (N + 1) (bootD E L kp) B' j' ∧ P F'
/-- What comes of a write. -/
def FxP (C : CfgZ) (A : FlA) (a : DevA) (g cm : Bool) (F F' : Nat → Nat → Nat) (P : (Nat → Nat → Nat) → Prop) (N : Nat) (x : Int) (w : World) : Prop :=
  (x = 0 ∧ ∃ V', FLx C A a g cm F' V' N w) ∨ (x = 10 ∧ g = false ∧ ∃ V', FLx C A a g cm F V' N w) ∨ (x = 6 ∧ cm = false ∧ FLo C a g P N w)
section
variable {w w' : World} {A : FlA} {a : DevA} {C : CfgZ} {g cm : Bool} {F F' : Nat → Nat → Nat} {V : FlV} {N : Nat}
theorem FLo.imp {P Q : (Nat → Nat → Nat) → Prop} (h : FLo C a g P N w) (hPQ : ∀ F, P F → Q F) : FLo C a g Q N w := by
  obtain ⟨E, d, b, k⟩ := h
  exact ⟨E, d, b, fun L kp hL => by obtain ⟨F', V', B', j', f, p⟩ := k L kp hL; exact ⟨F', V', B', j', f, hPQ _ p⟩⟩
theorem FLo.more {P : (Nat → Nat → Nat) → Prop} {N' : Nat} (h : FLo C a g P N w) (hN : N ≤ N') : FLo C a g P N' w := by
  obtain ⟨E, d, b, k⟩ := h
  exact ⟨E, d, b.mono hN, fun L kp hL => by obtain ⟨F', V', B', j', f, p⟩ := k L kp hL; exact ⟨F', V', B', j', ⟨f.calm, f.gd, f.fit, f.ls, f.vs, fun q hq => Nat.le_trans (f.mv q hq) (by omega), f.bd.mono (by omega)⟩, p⟩⟩
theorem FLx.gr {bs : List Nat} (h : FLx C A a g cm F V N w) (k : Gr bs w w') (hn : ∀ x ∈ A.all (cR C) ++ a.all, x ∉ bs) : FLx C A a g cm F V N w' := by
  obtain ⟨ok, D, B, j, c, h1, lv, hc, h2, h3⟩ := h
  exact ⟨ok, D, B, j, c, h1, lv, hc, h2.gr k (fun x hx => hn x (by simp [hx])), h3.gr k (fun x hx => hn x (by simp [hx]))⟩
theorem FLx.gr0 (h : FLx C A a g cm F V N w) (k : Gr [] w w') : FLx C A a g cm F V N w' := h.gr k (by simp)
theorem FLx.lt (h : FLx C A a g cm F V N w) : ∀ x ∈ A.all (cR C) ++ a.all, x < w.heap.size := by
  obtain ⟨ok, D, B, j, c, h1, lv, hc, h2, h3⟩ := h
  intro x hx
  rcases List.mem_append.1 hx with hx | hx
  · exact h2.lt x hx
  · exact h3.lt x hx
theorem FLx.congr (h : FLx C A a g cm F V N w) (hF : ∀ l k, l < cR C * cL C → k < 8 → F l k = F' l k) : FLx C A a g cm F' V N w := by
  obtain ⟨ok, D, B, j, c, h1, r⟩ := h
  exact ⟨ok, D, B, j, c, h1.congr hF, r⟩
theorem FLx.more {N' : Nat} (h : FLx C A a g cm F V N w) (hN : N ≤ N') : FLx C A a g cm F V N' w := by
  obtain ⟨ok, D, B, j, c, h1, lv, hc, h2, h3⟩ := h
  exact ⟨ok, D, B, j, c, ⟨h1.calm, h1.gd, h1.fit, h1.ls, h1.vs, fun q hq => Nat.le_trans (h1.mv q hq) hN, h1.bd.mono hN⟩, lv, hc, h2.moreN (by omega), h3⟩
theorem FLx.of (h : FL C A a g F V N w) : FLx C A a g true F V N w := by
  obtain ⟨ok, D, B, j, c, h1, h2, h3⟩ := h
  exact ⟨ok, D, B, j, c, by rw [calm_bare h1.calm]; exact h1, h1.calm.live, fun _ => h1.calm, h2, h3⟩
theorem FLx.size (h : FLx C A a g cm F V N w) (l : Nat) (hl : l < cR C * cL C) : (lnF F l).size = 64 ∧ ∀ k, k < 8 → wdL (lnF F l).data.toList k = F l k := by
  obtain ⟨ok, D, B, j, c, h1, lv, hc, h2, h3⟩ := h
  exact (h1.read ok h3.ok.medB hl).2
theorem FLx.read (h : FLx C A a g cm F V N w) (l : Nat) (hl : l < cR C * cL C) :
    Calls Tryz.prog 96 #[.pointer (some ⟨A.fb, 0, none⟩), .int .i64 (l : Int)] w fun e w' => e = .returned (.tuple #[.string (lnF F l), .int .i64 0]) ∧ Gr [] w w' := by
  obtain ⟨ok, D, B, j, c, h1, lv, hc, h2, h3⟩ := h
  have hr := (h1.read ok h3.ok.medB hl).1
  rw [readR_bare lv] at hr
  have := fread_in l h2 hl h3 h1.fit
  rw [hr] at this
  exact this
theorem FLx.region (h : FLx C A a g cm F V N w) (l : Nat) (hl : l < cR C * cL C) : Calls Tryz.prog 71 #[.pointer (some ⟨A.fb, 0, none⟩), .int .i64 (l : Int)] w fun e w' => e = .returned (.int .i64 ((qL C l : Nat) : Int)) ∧ Gr [] w w' := by
  obtain ⟨ok, D, B, j, c, h1, lv, hc, h2, h3⟩ := h
  exact fregion_in l h2 hl
theorem FLx.moves (h : FLx C A a g cm F V N w) (q : Nat) (hq : q < cR C) : Calls Tryz.prog 154 #[.pointer (some ⟨A.fb, 0, none⟩), .int .i64 (q : Int)] w fun e w' => e = .returned (.int .u32 (V.J q : Int)) ∧ Gr [] w w' := by
  obtain ⟨ok, D, B, j, c, h1, lv, hc, h2, h3⟩ := h
  have := fmoves_in q h2 hq
  rw [h1.vs]
  exact this
/-- A line's write, whatever comes of it. -/
theorem FLx.put (h : FLx C A a g cm F V N w) (hN : N < 490000000) (l : Nat) (hl : l < cR C * cL C) (s : ByteArray) (hs : s.size = 64) :
    Calls Tryz.prog 65 #[.pointer (some ⟨A.fb, 0, none⟩), .int .i64 (l : Int), .string s] w fun e w' => ∃ x : Int, e = .returned (.int .i64 x) ∧ FxP C A a g cm F (fun l2 k => if l2 = l then wdL s.data.toList k else F l2 k) (fun F' => ∃ H, (F' = fun l2 k => if l2 = l then H k else F l2 k) ∧ Mix2 (F l) (wdL s.data.toList) H) (N + 4200) x w' ∧ Gr (A.all (cR C) ++ a.all) w w' := by
  obtain ⟨ok, D, B, j, c, h1, lv, hc, h2, h3⟩ := h
  obtain ⟨Gf, L, hF⟩ := h1.ls
  obtain ⟨hq, hi⟩ := qi_in ok hl
  obtain ⟨r1, r2, r3, r4, r5, r6, r7, r8⟩ := ok.reg hq
  have hj := h1.mv _ hq
  have hrg : RgC (regC C (qL C l)) (bare D) (B (qL C l)) (j (qL C l)) (Gf (qL C l)) := L.rg _ hq
  have hmed := h3.ok.medB
  have ho := reg_line r1 lv hmed hrg (by omega) (by rw [r4]; exact hi) hs (c (qL C l))
  have hu : cm = true → Calm (regZ (regC C (qL C l)) (iL C l) (fun z => writeS (bankR (regC C (qL C l))) z s) D (B (qL C l)) (j (qL C l)) (c (qL C l))).2.1 ∧ (regZ (regC C (qL C l)) (iL C l) (fun z => writeS (bankR (regC C (qL C l))) z s) D (B (qL C l)) (j (qL C l)) (c (qL C l))).1 ≠ 6 := fun e => by
    have hrg2 := hrg
    rw [calm_bare (hc e)] at hrg2
    obtain ⟨u1, u2, u3⟩ := reg_used (f := fun z => writeS (bankR (regC C (qL C l))) z s) r1 (hc e) hmed hrg2 (by omega) (show iL C l < (regC C (qL C l)).l by rw [r4]; exact hi) (c (qL C l)) (fun D B j hc h => line_used r1 (by rw [r4]; exact hi) hs D B j hc h)
    exact ⟨u1, by omega⟩
  have hg : g = true → (regZ (regC C (qL C l)) (iL C l) (fun z => writeS (bankR (regC C (qL C l))) z s) D (B (qL C l)) (j (qL C l)) (c (qL C l))).1 ≠ 10 := fun e => by
    have := regline_good r1 lv (h1.gd e) hmed hrg (by omega) (by rw [r4]; exact hi) hs (c (qL C l))
    omega
  refine (fwrite_in l s h2 hl h3 h1.bd (by omega) (by omega) hs (by omega) h1.fit (fun hc => ?_)).mono ?_
  · obtain ⟨m1, m2, m3, _⟩ := move_last r1 lv hmed hrg (by omega)
    exact ⟨m1, m2, m3⟩
  · rintro e w2 ⟨rfl, d2, b2, f2, g2⟩
    obtain ⟨⟨x, E, B', j', c'⟩, hX⟩ : ∃ X, regZ (regC C (qL C l)) (iL C l) (fun z => writeS (bankR (regC C (qL C l))) z s) D (B (qL C l)) (j (qL C l)) (c (qL C l)) = X := ⟨_, rfl⟩
    rw [hX] at ho hu hg d2 b2 f2 ⊢
    simp only at ho hu hg d2 b2 f2 ⊢
    refine ⟨x, rfl, ?_, g2⟩
    rcases ho.er with hx | hx | hx
    · obtain ⟨n1, n2⟩ := FlD.next2 ok h1 hl b2 (by omega) L hF ho (by omega) (H := wdL s.data.toList) (fun X hX => hX.1 hx)
      exact .inl ⟨hx, _, ok, E, _, _, _, n1, n2, fun e => (hu e).1, f2.moreN (by omega), d2⟩
    · obtain ⟨n1, n2⟩ := FlD.next2 ok h1 hl b2 (by omega) L hF ho (by omega) (H := F l) (fun X hX k hk => by rw [hX.2.1 hx k hk]; exact hF l k hl hk)
      refine .inr (.inl ⟨hx, ?_, _, ok, E, _, _, _, n1.congr (fun l2 k _ _ => ?_), n2, fun e => (hu e).1, f2.moreN (by omega), d2⟩)
      · cases hgg : g with
        | false => rfl
        | true => exact absurd hx (hg hgg)
      · split
        · rename_i e; rw [e]
        · rfl
    · refine .inr (.inr ⟨hx, ?_, E, d2, b2, fun P kp hP => ?_⟩)
      · cases hcc : cm with
        | false => rfl
        | true => exact absurd hx (hu hcc).2
      · obtain ⟨H, V', B2, j2, q1, q2⟩ := FlD.torn2 ok h1 hl (N' := N + 4200 + 1) (by omega) L hF ho (kp := kp) hP (boot_bdX b2)
        exact ⟨_, V', B2, j2, q1, H, rfl, fun k hk => by rw [← hF l k hl hk]; exact q2.2.2 k hk⟩
/-- A word's write, whatever comes of it. -/
theorem FLx.word (h : FLx C A a g cm F V N w) (hN : N < 490000000) (l k v : Nat) (hl : l < cR C * cL C) (hk : k < 8) (hv : v < 18446744073709551616) :
    Calls Tryz.prog 67 #[.pointer (some ⟨A.fb, 0, none⟩), .int .i64 (l : Int), .int .i64 (k : Int), .int .u64 (v : Int)] w fun e w' => ∃ x : Int, e = .returned (.int .i64 x) ∧ FxP C A a g cm F (fun l2 m => if l2 = l then updF (F l) k v m else F l2 m) (fun F' => ∃ H, (F' = fun l2 k => if l2 = l then H k else F l2 k) ∧ One2 (F l) (updF (F l) k v) H) (N + 4200) x w' ∧ Gr (A.all (cR C) ++ a.all) w w' := by
  obtain ⟨ok, D, B, j, c, h1, lv, hc, h2, h3⟩ := h
  obtain ⟨Gf, L, hF⟩ := h1.ls
  obtain ⟨hq, hi⟩ := qi_in ok hl
  obtain ⟨r1, r2, r3, r4, r5, r6, r7, r8⟩ := ok.reg hq
  have hj := h1.mv _ hq
  have hrg : RgC (regC C (qL C l)) (bare D) (B (qL C l)) (j (qL C l)) (Gf (qL C l)) := L.rg _ hq
  have hmed := h3.ok.medB
  have hmed2 : ∀ x, (bare D).med x < 18446744073709551616 := hmed
  have hFb : ∀ k, k < 8 → Gf (qL C l) (iL C l) k < 18446744073709551616 := fun k hk => by rw [hF l k hl hk]; exact h1.word ok hmed2 hl hk
  have ho := reg_word r1 lv hmed hrg (by omega) (by rw [r4]; exact hi) hk hv hFb (c (qL C l))
  have hu : cm = true → Calm (regZ (regC C (qL C l)) (iL C l) (fun z => writeWordS (bankR (regC C (qL C l))) z (k : Int) v) D (B (qL C l)) (j (qL C l)) (c (qL C l))).2.1 ∧ (regZ (regC C (qL C l)) (iL C l) (fun z => writeWordS (bankR (regC C (qL C l))) z (k : Int) v) D (B (qL C l)) (j (qL C l)) (c (qL C l))).1 ≠ 6 := fun e => by
    have hrg2 := hrg
    rw [calm_bare (hc e)] at hrg2
    obtain ⟨u1, u2, u3⟩ := reg_used (f := fun z => writeWordS (bankR (regC C (qL C l))) z (k : Int) v) r1 (hc e) hmed hrg2 (by omega) (show iL C l < (regC C (qL C l)).l by rw [r4]; exact hi) (c (qL C l)) (fun D B j hc h => word_used r1 (by rw [r4]; exact hi) hk hv hFb D B j hc h)
    exact ⟨u1, by omega⟩
  have hg : g = true → (regZ (regC C (qL C l)) (iL C l) (fun z => writeWordS (bankR (regC C (qL C l))) z (k : Int) v) D (B (qL C l)) (j (qL C l)) (c (qL C l))).1 ≠ 10 := fun e => by
    have := regword_good r1 lv (h1.gd e) hmed hrg (by omega) (by rw [r4]; exact hi) hk hv hFb (c (qL C l))
    omega
  refine (fww_in l k v h2 hl h3 h1.bd (by omega) (by omega) hk hv (by omega) h1.fit (fun hc => ?_)).mono ?_
  · obtain ⟨m1, m2, m3, _⟩ := move_last r1 lv hmed hrg (by omega)
    exact ⟨m1, m2, m3⟩
  · rintro e w2 ⟨rfl, d2, b2, f2, g2⟩
    obtain ⟨⟨x, E, B', j', c'⟩, hX⟩ : ∃ X, regZ (regC C (qL C l)) (iL C l) (fun z => writeWordS (bankR (regC C (qL C l))) z (k : Int) v) D (B (qL C l)) (j (qL C l)) (c (qL C l)) = X := ⟨_, rfl⟩
    rw [hX] at ho hu hg d2 b2 f2 ⊢
    simp only at ho hu hg d2 b2 f2 ⊢
    refine ⟨x, rfl, ?_, g2⟩
    rcases ho.er with hx | hx | hx
    · obtain ⟨n1, n2⟩ := FlD.next2 ok h1 hl b2 (by omega) L hF ho (by omega) (H := updF (F l) k v) (fun X hX m hm => by rw [hX.1 hx m hm]; exact updF_congr (hF l m hl hm))
      exact .inl ⟨hx, _, ok, E, _, _, _, n1, n2, fun e => (hu e).1, f2.moreN (by omega), d2⟩
    · obtain ⟨n1, n2⟩ := FlD.next2 ok h1 hl b2 (by omega) L hF ho (by omega) (H := F l) (fun X hX k hk => by rw [hX.2.1 hx k hk]; exact hF l k hl hk)
      refine .inr (.inl ⟨hx, ?_, _, ok, E, _, _, _, n1.congr (fun l2 k _ _ => ?_), n2, fun e => (hu e).1, f2.moreN (by omega), d2⟩)
      · cases hgg : g with
        | false => rfl
        | true => exact absurd hx (hg hgg)
      · split
        · rename_i e; rw [e]
        · rfl
    · refine .inr (.inr ⟨hx, ?_, E, d2, b2, fun P kp hP => ?_⟩)
      · cases hcc : cm with
        | false => rfl
        | true => exact absurd hx (hu hcc).2
      · obtain ⟨H, V', B2, j2, q1, q2⟩ := FlD.torn2 ok h1 hl (N' := N + 4200 + 1) (by omega) L hF ho (kp := kp) hP (boot_bdX b2)
        refine ⟨_, V', B2, j2, q1, H, rfl, ?_⟩
        rcases q2.2.2 with r | r
        · exact .inl fun m hm => (r m hm).trans (hF l m hl hm)
        · exact .inr fun m hm => (r m hm).trans (updF_congr (hF l m hl hm))
end
end Go.Proofs.YtifekejcbhllpaaGreat
