/-
  SkAz: FlL, FlN, FlVa.
-/
import Derived.Test.YtifekejcbhllpaaGreatSkAv
import Derived.Test.YtifekejcbhllpaaGreatSkAx
import Derived.Test.YtifekejcbhllpaaGreatSkAy

set_option linter.unusedVariables false

/-
  Layer 9, pure: a list of lines on a device: its head, its regions one behind the other, its contents.
-/
namespace Go.Proofs.YtifekejcbhllpaaGreat
open Go.RowKit
set_option linter.unusedVariables false

/-- A config that may be, on a device of so many lines. -/
structure OkC (C : CfgZ) : Prop where
  r1 : 1 ≤ C.r
  r2 : C.r ≤ 16
  ok : okP C
  key : C.key < 18446744073709551616
  fits : 1 + C.r * regS C ≤ 8192
def regC (C : CfgZ) (q : Nat) : PlanR := regP C.l.toNat C.s C.psi q
def cR (C : CfgZ) : Nat := C.r.toNat
def cL (C : CfgZ) : Nat := C.l.toNat
section
variable {C : CfgZ} {q q2 : Nat}
theorem OkC.nums (h : OkC C) : ((cR C : Nat) : Int) = C.r ∧ ((cL C : Nat) : Int) = C.l ∧ 1 ≤ cR C ∧ cR C ≤ 16 ∧ 1 ≤ cL C ∧ cL C ≤ 1024 ∧ 0 ≤ C.s ∧ C.s ≤ 64 ∧ 1 ≤ C.psi ∧ C.psi ≤ 65535 ∧ regS C = (C.s + 7) / 8 + (C.l + 2) + C.s := by
  obtain ⟨h1, h2, h3, h4, h5⟩ := h
  obtain ⟨_, q2⟩ := regS_ok h3
  obtain ⟨g1, g2, g3, g4, g5, g6⟩ := h3
  unfold cR cL
  refine ⟨by omega, by omega, by omega, by omega, by omega, by omega, g3, g4, g5, g6, q2⟩
theorem OkC.wf (h : OkC C) : wfC C ∧ Wf16 C := by
  obtain ⟨n1, n2, n3, n4, n5, n6, n7, n8, n9, n10, n11⟩ := h.nums
  exact ⟨⟨by omega, by omega⟩, ⟨by omega, by omega, by omega, by omega, h.key⟩⟩
theorem OkC.size (h : OkC C) : sizeC C = 1 + C.r * regS C := by unfold sizeC; rw [if_pos ⟨h.r1, h.r2, h.ok⟩]
theorem OkC.check (h : OkC C) {n : Int} (hn : sizeC C ≤ n) : checkC C n = 0 := by
  have hb := mul_b C (k := C.r) (by have := h.r1; omega) h.r2
  unfold checkC
  rw [if_neg (by rw [h.size]; omega), if_neg (by omega)]
theorem OkC.step (h : OkC C) (hq : q < cR C) : (q : Int) * regS C + regS C ≤ C.r * regS C := by
  have hb := regS_b C
  have h1 : ((q : Int) + 1) * regS C ≤ C.r * regS C := Int.mul_le_mul_of_nonneg_right (by have := h.nums.1; omega) hb.1
  rw [Int.add_mul] at h1
  omega
theorem OkC.reg (h : OkC C) (hq : q < cR C) : OkR (regC C q) ∧ sizeZ (bankR (regC C q)) = regS C ∧ (regC C q).a = 1 + (q : Int) * regS C ∧ (regC C q).l = cL C ∧ (regC C q).s = C.s ∧ (regC C q).psi = C.psi ∧ (regC C q).a + regS C ≤ sizeC C ∧ 1 ≤ (regC C q).a := by
  obtain ⟨n1, n2, n3, n4, n5, n6, n7, n8, n9, n10, n11⟩ := h.nums
  obtain ⟨g1, _⟩ := regS_ok h.ok
  have hs := h.step hq
  have hz : sizeZ ⟨1, ((C.l.toNat : Nat) : Int) + 2, C.s⟩ = regS C := by rw [g1]; congr 2; unfold cL at n2; omega
  have hb := mul_b C (k := (q : Int)) (by omega) (by omega)
  have hf := h.fits
  have hrb := regS_b C
  obtain ⟨a1, a2⟩ := regP_size (l := C.l.toNat) (s := C.s) (psi := C.psi) (r := q) n5 n6 n7 n8 (by rw [hz]; omega) n9 n10
  have ha : (regC C q).a = 1 + (q : Int) * regS C := by show 1 + (q : Int) * sizeZ _ = _; rw [hz]
  refine ⟨a1, by rw [← hz]; exact a2, ha, rfl, rfl, rfl, ?_, by omega⟩
  rw [ha, h.size]
  omega
theorem OkC.apart (h : OkC C) (hq : q < cR C) (hq2 : q2 < cR C) (hne : q ≠ q2) : Apart (bankR (regC C q)) (bankR (regC C q2)) := by
  have hrb := regS_b C
  obtain ⟨_, s1, a1, _⟩ := h.reg hq
  obtain ⟨_, s2, a2, _⟩ := h.reg hq2
  unfold Apart
  show (regC C q).a + sizeZ (bankR (regC C q)) ≤ (regC C q2).a ∨ (regC C q2).a + sizeZ (bankR (regC C q2)) ≤ (regC C q).a
  rw [s1, s2, a1, a2]
  rcases Nat.lt_or_ge q q2 with c | c
  · left
    have := Int.mul_le_mul_of_nonneg_right (show (q : Int) + 1 ≤ (q2 : Int) by omega) hrb.1
    rw [Int.add_mul] at this
    omega
  · right
    have := Int.mul_le_mul_of_nonneg_right (show (q2 : Int) + 1 ≤ (q : Int) by omega) hrb.1
    rw [Int.add_mul] at this
    omega
theorem regV_eq (h : OkC C) (hq : q < cR C) : regV C (q : Int) = planRV (regC C q) := by
  obtain ⟨_, _, a1, a2, a3, a4, _⟩ := h.reg hq
  have n2 := h.nums.2.1
  unfold regV planRV
  rw [a1, a2, a3, a4, n2]
end
section
variable {P : PlanR} {D E : DevS} {B : BkS} {j : Nat} {F : Nat → Nat → Nat}
/-- A region's contents hang on its bank's words alone. -/
theorem RgC.keep (hP : OkR P) (h : RgC P D B j F) (hc : Calm E) (hn : E.n = D.n) (hb : E.bad = D.bad) (hx : ∀ x : Nat, 8 * P.a ≤ (x : Int) → (x : Int) < 8 * (P.a + sizeZ (bankR P)) → E.med x = D.med x) : RgC P E B j F := by
  obtain ⟨q1, q2, q3, q4, q5, q6⟩ := rg_nums hP
  have hba : (bankR P).a = P.a := rfl
  have hc2 : ∀ z, inP (bankR P) z → ∀ k, k < 8 → cntZ (bankR P) B E z k = cntZ (bankR P) B D z k := fun z hz k hk => by
    obtain ⟨l, pl, c1, c2, c3⟩ := h.ti.place hP.ok hz
    have hu := h.ti.us
    have hbl : (bankR P).l = (P.l : Int) + 2 := rfl
    have hbs : (bankR P).s = P.s := rfl
    unfold spareP at c3
    unfold cntZ
    rw [pl, Int.toNat_natCast]
    exact hx _ (by omega) (by omega)
  have hbl : (bankR P).l = (P.l : Int) + 2 := rfl
  refine ⟨h.ti.keep2 hc hn (fun x x1 x2 => hx x x1 (by omega)) hP.ok (fun l l1 l2 => by rw [hb]; exact h.ti.tb l l1 l2), ?_, fun i k hi hk => ?_⟩
  · rw [hc2 _ (inR P (by omega) (by omega)) 0 (by omega)]
    exact h.reg
  · have hle := slotN_le (j := j) (i := i) hP.l1
    rw [hc2 _ (inR P (by omega) (by omega)) k hk]
    exact h.wd i k hi hk
end
/-- A list's regions, its head, on a device that is calm. -/
structure LsC (C : CfgZ) (D : DevS) (B : Nat → BkS) (j : Nat → Nat) (F : Nat → Nat → Nat → Nat) : Prop where
  hd : ∀ k, k < 8 → D.med k = wdL (headL C) k
  rg : ∀ q, q < cR C → RgC (regC C q) D (B q) (j q) (F q)
def updN {α : Type} (f : Nat → α) (k : Nat) (v : α) : Nat → α := fun i => if i = k then v else f i
theorem updN_same {α : Type} (f : Nat → α) (k : Nat) (v : α) : updN f k v k = v := if_pos rfl
theorem updN_other {α : Type} (f : Nat → α) {k i : Nat} (v : α) (h : i ≠ k) : updN f k v i = f i := if_neg h
section
variable {C : CfgZ} {D E E0 : DevS} {B : Nat → BkS} {j : Nat → Nat} {F : Nat → Nat → Nat → Nat} {q0 i0 j' : Nat} {B' : BkS} {G : Int → (Nat → Nat) → Prop} {e : Int}
/-- What is outside a region is the head, and the others. -/
theorem OkC.outs (h : OkC C) (hq : q0 < cR C) : (∀ k, k < 8 → OutZ (bankR (regC C q0)) k) ∧ ∀ q, q < cR C → q ≠ q0 → ∀ x : Nat, 8 * (regC C q).a ≤ (x : Int) → (x : Int) < 8 * ((regC C q).a + sizeZ (bankR (regC C q))) → OutZ (bankR (regC C q0)) x := by
  obtain ⟨_, s0, a0, _, _, _, _, l0⟩ := h.reg hq
  refine ⟨fun k hk => ?_, fun q hq1 hne x h1 h2 => ?_⟩
  · unfold OutZ
    show (k : Int) < 8 * (regC C q0).a ∨ _
    omega
  · have ha := h.apart hq1 hq hne
    have ha' : (regC C q).a + sizeZ (bankR (regC C q)) ≤ (regC C q0).a ∨ (regC C q0).a + sizeZ (bankR (regC C q0)) ≤ (regC C q).a := ha
    unfold OutZ
    show (x : Int) < 8 * (regC C q0).a ∨ 8 * ((regC C q0).a + sizeZ (bankR (regC C q0))) ≤ (x : Int)
    omega
/-- A list, region q0 of it being another one now; E0 is calm, and as E outside. -/
theorem LsC.other (h : OkC C) (L : LsC C (bare D) B j F) (hq : q0 < cR C) (hc : Calm E0) (hn : E0.n = D.n) (hb : E0.bad = D.bad) (ho : ∀ x, OutZ (bankR (regC C q0)) x → E0.med x = D.med x) {F0 : Nat → Nat → Nat} (hr : RgC (regC C q0) E0 B' j' F0) : LsC C E0 (updN B q0 B') (updN j q0 j') (updN F q0 F0) := by
  obtain ⟨o1, o2⟩ := h.outs hq
  refine ⟨fun k hk => ?_, fun q hq1 => ?_⟩
  · rw [ho k (o1 k hk)]
    exact L.hd k hk
  · by_cases c : q = q0
    · subst c
      rw [updN_same, updN_same, updN_same]
      exact hr
    · rw [updN_other _ _ c, updN_other _ _ c, updN_other _ _ c]
      exact (L.rg q hq1).keep (h.reg hq1).1 hc hn hb fun x x1 x2 => ho x (o2 q hq1 c x x1 x2)
end
end Go.Proofs.YtifekejcbhllpaaGreat

/-
  Layer 9, pure: what lasts of a Make.
-/
namespace Go.Proofs.YtifekejcbhllpaaGreat
open Go.RowKit
set_option linter.unusedVariables false

/-- The regions that are formatted, from k on, r of them: the answer, the device. -/
def makZ (C : CfgZ) : Nat → Nat → DevS → Int × DevS
  | 0, _, D => (0, D)
  | r + 1, k, D => if (rfmtZ (regC C k) D).1 ≠ 0 then rfmtZ (regC C k) D else makZ C r (k + 1) (rfmtZ (regC C k) D).2
def makeZ (C : CfgZ) (D : DevS) : Int × DevS :=
  if (putE D 0 zeroT).1 ≠ 0 then putE D 0 zeroT
  else if (makZ C (cR C) 0 (putE D 0 zeroT).2).1 ≠ 0 then makZ C (cR C) 0 (putE D 0 zeroT).2
  else if (putE (makZ C (cR C) 0 (putE D 0 zeroT).2).2 0 (headS C)).1 ≠ 0 then putE (makZ C (cR C) 0 (putE D 0 zeroT).2).2 0 (headS C)
  else (if tookB (putE (makZ C (cR C) 0 (putE D 0 zeroT).2).2 0 (headS C)).2 0 (headS C) = true then 0 else 10, (putE (makZ C (cR C) 0 (putE D 0 zeroT).2).2 0 (headS C)).2)
def Z9 : Nat → Nat → Nat := fun _ _ => 0
/-- A device with power, none of whose lines is bad. -/
structure Gud (n : Nat) (D : DevS) : Prop where
  live : Live D
  bad : D.bad = fun _ => false
  n : D.n = n
section
variable {C : CfgZ} {n : Nat}
theorem mak_step (h : OkC C) (hn : sizeC C ≤ (n : Int)) {k : Nat} (hk : k < cR C) {D : DevS} (g : Gud n D) :
    ((fmtZ (bankR (regC C k)) (tabZ (bankR (regC C k)) + (bankR (regC C k)).l).toNat 0 D).1 = 0 → (fmtZ (bankR (regC C k)) (tabZ (bankR (regC C k)) + (bankR (regC C k)).l).toNat 0 D).2.off = false ∧ (fmtZ (bankR (regC C k)) (tabZ (bankR (regC C k)) + (bankR (regC C k)).l).toNat 0 D).2.n = D.n ∧ ∀ i : Nat, (i : Int) < (regC C k).s → loadV (fmtZ (bankR (regC C k)) (tabZ (bankR (regC C k)) + (bankR (regC C k)).l).toNat 0 D).2 (8 * (regC C k).a.toNat + i) = 0) ∧
    checkZ (bankR (regC C k)) (D.n : Int) = 0 ∧
    ((∃ E, rfmtZ (regC C k) D = (0, E) ∧ Gud n E ∧ RgC (regC C k) (bare E) B0 0 Z9 ∧ ∀ x, OutZ (bankR (regC C k)) x → E.med x = D.med x) ∨
     (∃ E, rfmtZ (regC C k) D = (6, E) ∧ E.off = true ∧ E.n = n ∧ E.bad = (fun _ => false) ∧ ∀ L kp, IsPend E L → ∀ x, OutZ (bankR (regC C k)) x → (bootD E L kp).med x = D.med x)) ∧
    (Calm D → (rfmtZ (regC C k) D).1 = 0 ∧ Calm (rfmtZ (regC C k) D).2) := by
  obtain ⟨hP, hs, ha, _, _, _, hf, hl⟩ := h.reg hk
  have hba : (bankR (regC C k)).a = (regC C k).a := rfl
  have hfit : (bankR (regC C k)).a + sizeZ (bankR (regC C k)) ≤ (D.n : Int) := by rw [g.n, hs, hba]; omega
  obtain ⟨a1, a2, a3⟩ := rfmt_last hP g.live g.bad hfit
  refine ⟨a1, ?_, ?_, a3⟩
  · unfold checkZ
    rw [if_pos hP.ok, if_neg (by omega)]
  · rcases a2 with ⟨E, b1, b2, b3, b4, b5, b6⟩ | ⟨E, b1, b2, b3, b4, b5⟩
    · exact .inl ⟨E, b1, ⟨b2, b4.trans g.bad, b3.trans g.n⟩, b5, b6⟩
    · exact .inr ⟨E, b1, b2, b3.trans g.n, b4.trans g.bad, b5⟩
theorem mak_last (h : OkC C) (hn : sizeC C ≤ (n : Int)) : ∀ (r k : Nat) (D : DevS), k + r = cR C → Gud n D → (∀ q, q < k → RgC (regC C q) (bare D) B0 0 Z9) →
    ((∃ E, makZ C r k D = (0, E) ∧ Gud n E ∧ (∀ q, q < cR C → RgC (regC C q) (bare E) B0 0 Z9) ∧ ∀ x, x < 8 → E.med x = D.med x) ∨
     (∃ E, makZ C r k D = (6, E) ∧ E.off = true ∧ E.n = n ∧ E.bad = (fun _ => false) ∧ ∀ L kp, IsPend E L → ∀ x, x < 8 → (bootD E L kp).med x = D.med x)) ∧
    (Calm D → (makZ C r k D).1 = 0 ∧ Calm (makZ C r k D).2)
  | 0, k, D, hk, g, hq => ⟨.inl ⟨D, rfl, g, fun q hq1 => hq q (by omega), fun _ _ => rfl⟩, fun hc => ⟨rfl, hc⟩⟩
  | r + 1, k, D, hk, g, hq => by
    have hkr : k < cR C := by omega
    obtain ⟨_, _, a3, a4⟩ := mak_step h hn hkr g
    obtain ⟨o1, o2⟩ := h.outs hkr
    rw [makZ]
    rcases a3 with ⟨E, b1, b2, b3, b4⟩ | ⟨E, b1, b2, b3, b4, b5⟩
    · rw [b1] at a4 ⊢
      rw [if_neg (by simp)]
      simp only at a4 ⊢
      obtain ⟨c1, c2⟩ := mak_last h hn r (k + 1) E (by omega) b2 (fun q hq1 => by
        by_cases c : q = k
        · subst c; exact b3
        · exact (hq q (by omega)).keep (h.reg (by omega)).1 (bare_calm E) (b2.n.trans g.n.symm) (b2.bad.trans g.bad.symm) fun x x1 x2 => b4 x (o2 q (by omega) c x x1 x2))
      refine ⟨?_, fun hc => c2 (a4 hc).2⟩
      rcases c1 with ⟨E2, d1, d2, d3, d4⟩ | ⟨E2, d1, d2, d3, d4, d5⟩
      · exact .inl ⟨E2, d1, d2, d3, fun x hx => (d4 x hx).trans (b4 x (o1 x hx))⟩
      · exact .inr ⟨E2, d1, d2, d3, d4, fun L kp hL x hx => (d5 L kp hL x hx).trans (b4 x (o1 x hx))⟩
    · rw [b1] at a4 ⊢
      rw [if_pos (by simp)]
      refine ⟨.inr ⟨E, rfl, b2, b3, b4, fun L kp hL x hx => b5 L kp hL x (o1 x hx)⟩, fun hc => ?_⟩
      have := (a4 hc).1
      simp at this
/-- What is there behind Boot, where a Make was cut. -/
def TornM (C : CfgZ) (D E : DevS) : Prop :=
  (∀ x, x < 8 → E.med x = D.med x ∨ E.med x = 0) ∨ ((∀ q, q < cR C → RgC (regC C q) E B0 0 Z9) ∧ ∀ x, x < 8 → E.med x = 0 ∨ E.med x = wdL (headL C) x)
theorem headL_words (C : CfgZ) (k : Nat) : wdL (headS C).data.toList k = wdL (headL C) k := rfl
theorem make_last (h : OkC C) (hn : sizeC C ≤ (n : Int)) (D : DevS) (g : Gud n D) :
    ((∃ E, makeZ C D = (0, E) ∧ Gud n E ∧ LsC C (bare E) (fun _ => B0) (fun _ => 0) (fun _ => Z9)) ∨
     (∃ E, makeZ C D = (6, E) ∧ E.off = true ∧ E.n = n ∧ E.bad = (fun _ => false) ∧ ∀ L kp, IsPend E L → TornM C D (bootD E L kp))) ∧
    (Calm D → (makeZ C D).1 = 0 ∧ Calm (makeZ C D).2) := by
  have hb := mul_b C (k := C.r) (by have := h.r1; omega) h.r2
  have hs := h.size
  have hn1 : 0 < n := by omega
  unfold makeZ
  rcases put_live (l := 0) g.live (by rw [g.n]; exact hn1) zeroT_size with ⟨E1, e1, s1⟩ | ⟨E1, e1, s1⟩
  · have e1' : putE D 0 zeroT = (0, E1) := e1
    have hm1 : ∀ x, E1.med x = if x < 8 then 0 else D.med x := fun x => by
      rw [s1.med]
      by_cases c : x < 8
      · rw [if_pos c, if_pos ⟨by omega, by omega, by rw [g.bad]⟩]
        exact zeroT_word (by omega)
      · rw [if_neg c, if_neg (by omega)]
    have g1 : Gud n E1 := ⟨s1.live, s1.bad.trans g.bad, s1.n.trans g.n⟩
    have c1 : Calm D → Calm E1 := fun hc => by
      obtain ⟨E3, e3, s3⟩ := put_calm (l := 0) hc (by rw [g.n]; exact hn1) zeroT_size
      rw [e1] at e3
      cases e3
      exact s3.calm
    rw [e1', if_neg (by simp)]
    simp only
    obtain ⟨m1, m2⟩ := mak_last h hn (cR C) 0 E1 (by omega) g1 (fun q hq => by omega)
    rcases m1 with ⟨E2, b1, b2, b3, b4⟩ | ⟨E2, b1, b2, b3, b4, b5⟩
    · rw [b1] at m2 ⊢
      rw [if_neg (by simp)]
      simp only at m2 ⊢
      have hz2 : ∀ x, x < 8 → E2.med x = 0 := fun x hx => by rw [b4 x hx, hm1, if_pos hx]
      have hreg : ∀ q, q < cR C → 1 ≤ (regC C q).a := fun q hq => (h.reg hq).2.2.2.2.2.2.2
      rcases put_live (l := 0) b2.live (by rw [b2.n]; exact hn1) (headS_size C) with ⟨E3, e3, s3⟩ | ⟨E3, e3, s3⟩
      · have e3' : putE E2 0 (headS C) = (0, E3) := e3
        have hm3 : ∀ x, E3.med x = if x < 8 then wdL (headL C) x else E2.med x := fun x => by
          rw [s3.med]
          by_cases c : x < 8
          · rw [if_pos c, if_pos ⟨by omega, by omega, by rw [b2.bad]⟩]
            rfl
          · rw [if_neg c, if_neg (by omega)]
        rw [e3', if_neg (by simp)]
        simp only
        have ht : tookB E3 0 (headS C) = true := took_of (l := 0) (by rw [s3.n, b2.n]; exact hn1) (headS_size C) fun k hk => by
          rw [Nat.mul_zero, Nat.zero_add, hm3, if_pos hk]; rfl
        rw [if_pos ht]
        refine ⟨.inl ⟨E3, rfl, ⟨s3.live, s3.bad.trans b2.bad, s3.n.trans b2.n⟩, fun k hk => ?_, fun q hq => ?_⟩, fun hc => ⟨rfl, ?_⟩⟩
        · show E3.med k = _
          rw [hm3, if_pos hk]
        · refine (b3 q hq).keep (h.reg hq).1 (bare_calm E3) s3.n s3.bad fun x x1 x2 => ?_
          show E3.med x = E2.med x
          rw [hm3, if_neg]
          have := hreg q hq
          omega
        · obtain ⟨E4, e4, s4⟩ := put_calm (l := 0) (m2 (c1 hc)).2 (by rw [b2.n]; exact hn1) (headS_size C)
          rw [e3] at e4
          cases e4
          exact s4.calm
      · have e3' : putE E2 0 (headS C) = (6, E3) := e3
        rw [e3', if_pos (by simp)]
        refine ⟨.inr ⟨E3, rfl, s3.off, s3.n.trans b2.n, s3.bad.trans b2.bad, fun L kp hL => .inr ⟨fun q hq => ?_, fun x hx => ?_⟩⟩, fun hc => ?_⟩
        · refine (b3 q hq).keep (h.reg hq).1 (boot_calm E3 L kp) s3.n s3.bad fun x x1 x2 => ?_
          rcases boot_torn kp s3 hL x with c | ⟨j, j1, j2, _⟩
          · exact c
          · have := hreg q hq
            omega
        · rcases boot_torn kp s3 hL x with c | ⟨j, j1, j2, j3, _⟩
          · exact .inl (c.trans (hz2 x hx))
          · right
            rw [j3, headL_words]
            congr 1
            omega
        · obtain ⟨E4, e4, s4⟩ := put_calm (l := 0) (m2 (c1 hc)).2 (by rw [b2.n]; exact hn1) (headS_size C)
          rw [e3] at e4
          cases e4
    · rw [b1] at m2 ⊢
      rw [if_pos (by simp)]
      refine ⟨.inr ⟨E2, rfl, b2, b3, b4, fun L kp hL => .inl fun x hx => .inr ?_⟩, fun hc => ?_⟩
      · rw [b5 L kp hL x hx, hm1, if_pos hx]
      · have := (m2 (c1 hc)).1
        simp at this
  · have e1' : putE D 0 zeroT = (6, E1) := e1
    rw [e1', if_pos (by simp)]
    refine ⟨.inr ⟨E1, rfl, s1.off, s1.n.trans g.n, s1.bad.trans g.bad, fun L kp hL => .inl fun x hx => ?_⟩, fun hc => ?_⟩
    · rcases boot_torn kp s1 hL x with c | ⟨j, j1, j2, j3, _⟩
      · exact .inl c
      · right
        rw [j3]
        exact zeroT_word (by omega)
    · obtain ⟨E3, e3, s3⟩ := put_calm (l := 0) hc (by rw [g.n]; exact hn1) zeroT_size
      rw [e1] at e3
      cases e3
end
end Go.Proofs.YtifekejcbhllpaaGreat

/-
  Layer 9, pure: a region's write on a calm device: done, or no spare left.
-/
namespace Go.Proofs.YtifekejcbhllpaaGreat
open Go.RowKit
set_option linter.unusedVariables false

section
variable {p : PlanZ} {D E : DevS} {B : BkS} {s : ByteArray} {i : Int}
theorem ens_used (hok : okZ p = true) (hi : inP p i) (hs : s.size = 64) : ∀ (n : Nat) (D : DevS) (B : BkS), TI p D B → (B.used : Int) + (n : Int) = p.s → (ensS p i s n D B).1 = 0 ∨ ((ensS p i s n D B).1 = 10 ∧ ((ensS p i s n D B).2.2.used : Int) = p.s)
  | 0, D, B, h, hu => .inr ⟨rfl, by show (B.used : Int) = p.s; omega⟩
  | n + 1, D, B, h, hu => by
    obtain ⟨t, E, B', r, t1, t2, t3, t4⟩ := rep_calm h hok hi hs (by omega)
    rw [ensS, r]
    cases t with
    | true => exact .inl (by simp)
    | false =>
      have := ens_used hok hi hs n E B' t1 (by rw [t4]; omega)
      simpa using this
theorem ensure_used (hok : okZ p = true) (hi : inP p i) (hs : s.size = 64) (z : Int) (h : TI p D B) : (ensureS p i z s D B).1 = 0 ∨ ((ensureS p i z s D B).1 = 10 ∧ ((ensureS p i z s D B).2.2.used : Int) = p.s) := by
  unfold ensureS
  split
  · exact .inl rfl
  · have hu := h.us
    exact ens_used hok hi hs _ _ _ h (by omega)
theorem ensure_calm (hok : okZ p = true) (hi : inP p i) (hs : s.size = 64) (z : Int) (h : TI p D B) : TI p (ensureS p i z s D B).2.1 (ensureS p i z s D B).2.2 := by
  unfold ensureS
  split
  · exact h
  · have hu := h.us
    obtain ⟨e, E, B', q1, q2, q3, q4⟩ := ens_calm hok hi hs (p.s - (B.used : Int)).toNat D B h (by omega)
    rw [q1]
    exact q2
/-- A line's write on a calm device. -/
theorem write_used (h : TI p D B) (hok : okZ p = true) (hi : inP p i) (hs : s.size = 64) : Calm (writeS p i s D B).2.1 ∧ ((writeS p i s D B).1 = 0 ∨ ((writeS p i s D B).1 = 10 ∧ ((writeS p i s D B).2.2.used : Int) = p.s)) := by
  have hc := h.calm
  have hb := calm_bare hc
  obtain ⟨l, hl, hl2, hl1, hl3⟩ := h.place hok hi
  obtain ⟨E2, e2, s2⟩ := put_calm (l := l) hc hl2 hs
  have T2 : TI p E2 B := h.keep s2.calm s2.n (fun x hx => by rw [s2.med, if_neg (by omega)]) hok (fun l' q1 q2 => by rw [s2.bad]; exact h.tb l' q1 q2)
  have hw : writeS p i s D B = ensureS p i (l : Int) s E2 B := by
    unfold writeS
    rw [if_neg (by simp [hs]), if_pos hi, hl, e2]
    show (if (0 : Int) ≠ 0 then _ else _) = _
    rw [if_neg (by simp)]
  rw [hw]
  exact ⟨(ensure_calm hok hi hs _ T2).calm, ensure_used hok hi hs _ T2⟩
/-- A word's write on a calm device. -/
theorem ww_used {k v : Nat} (h : TI p D B) (hok : okZ p = true) (hi : inP p i) (hk : k < 8) : Calm (writeWordS p i (k : Int) v D B).2.1 ∧ ((writeWordS p i (k : Int) v D B).1 = 0 ∨ ((writeWordS p i (k : Int) v D B).1 = 10 ∧ ((writeWordS p i (k : Int) v D B).2.2.used : Int) = p.s)) := by
  have hc := h.calm
  obtain ⟨l, hl, hl2, hl1, hl3⟩ := h.place hok hi
  obtain ⟨E2, e2, s2⟩ := putword_calm (l := l) (k := k) (v := v) hc hl2 hk
  have T2 : TI p E2 B := h.keep s2.calm s2.n (fun x hx => by rw [s2.med, if_neg (by omega)]) hok (fun l' q1 q2 => by rw [s2.bad]; exact h.tb l' q1 q2)
  have hw : ∃ s : ByteArray, s.size = 64 ∧ writeWordS p i (k : Int) v D B = ensureS p i (l : Int) s E2 B := by
    refine ⟨textU (updF (lineF D l) k v), textU_size _, ?_⟩
    unfold writeWordS
    rw [if_neg (by omega), if_pos hi, hc.off, hl, Int.toNat_natCast, Int.toNat_natCast, e2]
    simp
  obtain ⟨s, hs, hw⟩ := hw
  rw [hw]
  exact ⟨(ensure_calm hok hi hs _ T2).calm, ensure_used hok hi hs _ T2⟩
end
section
variable {P : PlanR} {D : DevS} {B : BkS} {j i0 : Nat} {F : Nat → Nat → Nat}
/-- A move on a calm device. -/
theorem mov_used (hP : OkR P) (hc : Calm D) (hm : ∀ x, D.med x < 18446744073709551616) (h : RgC P D B j F) (hj : j < 4294967295) :
    Calm (movZ P D B j).2.1 ∧ ((movZ P D B j).1 = 0 ∨ ((movZ P D B j).1 = 10 ∧ ((movZ P D B j).2.2.used : Int) = P.s)) ∧ (D.bad = (fun _ => false) → (movZ P D B j).1 = 0 ∧ (movZ P D B j).2.1.bad = (fun _ => false)) := by
  have hle3 : toN P.l j ≤ P.l := by unfold toN; omega
  have hle4 : fromN P.l j ≤ P.l := by unfold fromN; split <;> omega
  have hif : inP (bankR P) (fromI P j) := by rw [fromI_N]; exact inR P (by omega) (by omega)
  have hit : inP (bankR P) (toI P j) := by rw [toI_N]; exact inR P (by omega) (by omega)
  have hir : inP (bankR P) ((P.l : Int) + 1) := inR P (by omega) (by omega)
  have hbs : (bankR P).s = P.s := rfl
  have hb := calm_bare hc
  obtain ⟨lf, pf, _, _, _⟩ := h.ti.place hP.ok hif
  have hread : readR D (bankR P) B (fromI P j) = (⟨(getT D lf).toArray⟩, 0) := by
    unfold readR
    rw [if_pos hif, hc.off, pf, Int.toNat_natCast]
    rfl
  have hT64 := line_size D lf
  obtain ⟨T, hT⟩ : ∃ T : ByteArray, T = ⟨(getT D lf).toArray⟩ := ⟨_, rfl⟩
  have h' : RgC P (bare D) B j F := by rw [hb]; exact h
  unfold movZ
  rw [hread]
  rw [← hT] at hT64 ⊢
  simp only
  obtain ⟨w1, w2⟩ := write_used h.ti hP.ok hit hT64
  obtain ⟨l1, e1, D1, B1, p1, q1, x1⟩ := write_last h'.ti hc.live hP.ok hit hT64
  obtain ⟨n1, n2, n3⟩ := x1.near hP.ok h'.ti hit p1
  rw [q1] at w1 w2 ⊢
  simp only at w1 w2 ⊢
  have hgood : D.bad = (fun _ => false) → e1 = 0 := fun hbad => by
    obtain ⟨l2, g1, g2, g3, g4, g5⟩ := write_good h'.ti hc.live hbad hP.ok hit hT64
    rcases g5 with ⟨E, g6, _⟩ | ⟨E, g6, _, g7⟩
    · rw [q1] at g6; exact (Prod.mk.inj g6).1
    · exact absurd hc g7
  by_cases c1 : e1 = 0
  · rw [if_pos c1]
    obtain ⟨t1, t2⟩ := n2 (by omega)
    have hb1 := calm_bare w1
    rw [hb1] at t2
    obtain ⟨hv1, hv2⟩ := pkN_val hP (j + 1) (by omega)
    obtain ⟨y1, y2⟩ := ww_used (k := 0) (v := pkN P (j + 1)) t2 hP.ok hir (by omega)
    have y1' : Calm (writeWordS (bankR P) ((P.l : Int) + 1) 0 (pkN P (j + 1)) D1 B1).2.1 := y1
    have y2' : (writeWordS (bankR P) ((P.l : Int) + 1) 0 (pkN P (j + 1)) D1 B1).1 = 0 ∨ ((writeWordS (bankR P) ((P.l : Int) + 1) 0 (pkN P (j + 1)) D1 B1).1 = 10 ∧ ((writeWordS (bankR P) ((P.l : Int) + 1) 0 (pkN P (j + 1)) D1 B1).2.2.used : Int) = P.s) := y2
    refine ⟨y1', y2', fun hbad => ?_⟩
    have hmed : ∀ l : Nat, placeP (bankR P) B1 ((P.l : Int) + 1) = (l : Int) → ∀ k, k < 8 → D1.med (8 * l + k) < 18446744073709551616 := fun l hl k hk => by
      rcases x1 with ⟨_, v1, yy⟩ | ⟨z1, _⟩ | ⟨z1, _⟩
      · have hne : ((P.l : Int) + 1) ≠ toI P j := by rw [toI_N]; omega
        have := (yy.cnt h'.ti hP.ok hit p1).1 ((P.l : Int) + 1) hir hne k hk
        unfold cntZ at this
        rw [hl, Int.toNat_natCast] at this
        rw [show D1.med (8 * l + k) = (bare D1).med (8 * l + k) from rfl, this]
        exact hm _
      · omega
      · omega
    have t2' : TI (bankR P) (bare D1) B1 := by rw [hb1]; exact t2
    obtain ⟨l2, g1, g2, g3, g4, g5⟩ := ww_good (k := 0) (v := pkN P (j + 1)) t2' w1.live (by rw [n1.bad, hbad]) hmed hv2 hP.ok hir (by omega)
    rcases g5 with ⟨E, g6, g7, _⟩ | ⟨E, g6, _, g7⟩
    · have g6' : writeWordS (bankR P) ((P.l : Int) + 1) 0 (pkN P (j + 1)) D1 B1 = (0, E, B1) := g6
      rw [g6']
      exact ⟨rfl, by rw [g7.bad, n1.bad, hbad]⟩
    · exact absurd w1 g7
  · rw [if_neg c1]
    exact ⟨w1, w2, fun hbad => absurd (hgood hbad) c1⟩
/-- A write on a calm device, a move being due or not. -/
theorem reg_used {f : Int → DevS → BkS → Int × DevS × BkS} (hP : OkR P) (hc : Calm D) (hm : ∀ x, D.med x < 18446744073709551616) (h : RgC P D B j F) (hj : j < 4294967295) (hi : i0 < P.l) (c : Nat)
    (hf : ∀ (D : DevS) (B : BkS) (j : Nat), Calm D → RgC P D B j F → Calm (f (slotJ P j i0) D B).2.1 ∧ ((f (slotJ P j i0) D B).1 = 0 ∨ ((f (slotJ P j i0) D B).1 = 10 ∧ ((f (slotJ P j i0) D B).2.2.used : Int) = P.s)) ∧ (D.bad = (fun _ => false) → (f (slotJ P j i0) D B).1 = 0)) :
    Calm (regZ P i0 f D B j c).2.1 ∧ ((regZ P i0 f D B j c).1 = 0 ∨ ((regZ P i0 f D B j c).1 = 10 ∧ ((regZ P i0 f D B j c).2.2.1.used : Int) = P.s)) ∧ (D.bad = (fun _ => false) → (regZ P i0 f D B j c).1 = 0) := by
  unfold regZ
  by_cases hcc : P.psi ≤ (c : Int)
  · rw [if_pos hcc]
    obtain ⟨m1, m2, m3⟩ := mov_used hP hc hm h hj
    obtain ⟨_, _, _, hM⟩ := move_last hP hc.live hm (by rw [calm_bare hc]; exact h) hj
    by_cases hz : (movZ P D B j).1 = 0
    · rw [if_pos hz]
      simp only
      rcases hM with ⟨_, _, a3⟩ | ⟨a1, _⟩
      · rw [calm_bare m1] at a3
        obtain ⟨k1, k2, k3⟩ := hf _ _ (j + 1) m1 a3
        exact ⟨k1, k2, fun hb => k3 (m3 hb).2⟩
      · omega
    · rw [if_neg hz]
      simp only
      exact ⟨m1, m2, fun hb => (m3 hb).1⟩
  · rw [if_neg hcc]
    exact hf D B j hc h
theorem line_used (hP : OkR P) (hi : i0 < P.l) {S : ByteArray} (hS : S.size = 64) (D : DevS) (B : BkS) (j : Nat) (hc : Calm D) (h : RgC P D B j F) : Calm (writeS (bankR P) (slotJ P j i0) S D B).2.1 ∧ ((writeS (bankR P) (slotJ P j i0) S D B).1 = 0 ∨ ((writeS (bankR P) (slotJ P j i0) S D B).1 = 10 ∧ ((writeS (bankR P) (slotJ P j i0) S D B).2.2.used : Int) = P.s)) ∧ (D.bad = (fun _ => false) → (writeS (bankR P) (slotJ P j i0) S D B).1 = 0) := by
  have hle := slotN_le (j := j) (i := i0) hP.l1
  rw [slotJ_N P j i0 hP.l1]
  have hin := inR P (z := ((slotN P.l j i0 : Nat) : Int)) (by omega) (by omega)
  obtain ⟨w1, w2⟩ := write_used h.ti hP.ok hin hS
  refine ⟨w1, w2, fun hb => ?_⟩
  obtain ⟨l2, g1, g2, g3, g4, g5⟩ := write_good (by rw [calm_bare hc]; exact h.ti) hc.live hb hP.ok hin hS
  rcases g5 with ⟨E, g6, _⟩ | ⟨E, g6, _, g7⟩
  · rw [g6]
  · exact absurd hc g7
theorem word_used (hP : OkR P) (hi : i0 < P.l) {k v : Nat} (hk : k < 8) (hv : v < 18446744073709551616) (hF : ∀ k, k < 8 → F i0 k < 18446744073709551616) (D : DevS) (B : BkS) (j : Nat) (hc : Calm D) (h : RgC P D B j F) : Calm (writeWordS (bankR P) (slotJ P j i0) (k : Int) v D B).2.1 ∧ ((writeWordS (bankR P) (slotJ P j i0) (k : Int) v D B).1 = 0 ∨ ((writeWordS (bankR P) (slotJ P j i0) (k : Int) v D B).1 = 10 ∧ ((writeWordS (bankR P) (slotJ P j i0) (k : Int) v D B).2.2.used : Int) = P.s)) ∧ (D.bad = (fun _ => false) → (writeWordS (bankR P) (slotJ P j i0) (k : Int) v D B).1 = 0) := by
  have hle := slotN_le (j := j) (i := i0) hP.l1
  rw [slotJ_N P j i0 hP.l1]
  have hin := inR P (z := ((slotN P.l j i0 : Nat) : Int)) (by omega) (by omega)
  obtain ⟨w1, w2⟩ := ww_used (v := v) h.ti hP.ok hin hk
  refine ⟨w1, w2, fun hb => ?_⟩
  obtain ⟨l2, g1, g2, g3, g4, g5⟩ := ww_good (k := k) (v := v) (by rw [calm_bare hc]; exact h.ti) hc.live hb (fun l hl k hk => by
    have := h.wd i0 k hi hk
    unfold cntZ at this
    rw [hl, Int.toNat_natCast] at this
    rw [this]
    exact hF k hk) hv hP.ok hin hk
  rcases g5 with ⟨E, g6, _⟩ | ⟨E, g6, _, g7⟩
  · rw [g6]
  · exact absurd hc g7
end
end Go.Proofs.YtifekejcbhllpaaGreat
