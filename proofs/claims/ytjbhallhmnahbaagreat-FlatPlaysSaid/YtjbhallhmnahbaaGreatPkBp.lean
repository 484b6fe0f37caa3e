/-
  PkBp: FpD, FlN, FlVa, FlVb.
-/
import Derived.Test.YtjbhallhmnahbaaGreatPkBo
import Derived.Test.YtjbhallhmnahbaaGreatPkBj
import Derived.Test.YtjbhallhmnahbaaGreatPkBf

set_option linter.unusedVariables false

/-
  FlatPlays, pure: a list on a device that has power, or whose power failed.
-/
namespace Go.Proofs.YtjbhallhmnahbaaGreat
open Go.RowKit
set_option linter.unusedVariables false

structure OnF (C : CfgZ) (D : DevS) (B : Nat → BkS) (j : Nat → Nat) : Prop where
  live : Live D
  fit : sizeC C ≤ (D.n : Int)
  ls : ∃ F, LsC C (bare D) B j F
structure OffF (C : CfgZ) (j : Nat → Nat) (D : DevS) : Prop where
  off : D.off = true
  fit : sizeC C ≤ (D.n : Int)
  boot : ∀ L kp, IsPend D L → ∃ (B2 : Nat → BkS) (j2 : Nat → Nat), (∀ q, q < cR C → j2 q = j q ∨ j2 q = j q + 1) ∧ ∃ F, LsC C (bootD D L kp) B2 j2 F
section
variable {C : CfgZ} {D E : DevS} {B : Nat → BkS} {j : Nat → Nat} {q0 i0 : Nat} {B' : BkS} {j' : Nat} {e : Int}
theorem OnF.on (h : OnF C D B j) {q : Nat} (hq : q < cR C) : OnR (regC C q) D (B q) (j q) := by
  obtain ⟨F, L⟩ := h.ls
  exact ⟨h.live, (L.rg q hq).ti, (L.rg q hq).reg⟩
theorem RgD.rgc {P : PlanR} {F : Nat → Nat → Nat} {G : (Nat → Nat) → Prop} (h : RgD P D B' j' i0 F G) : RgC P D B' j' (fun i k => if i = i0 then cntZ (bankR P) B' D ((slotN P.l j' i0 : Nat) : Int) k else F i k) := ⟨h.ti, h.reg, fun i x hil hx => by
  by_cases c : i = i0
  · rw [if_pos c, c]
  · rw [if_neg c]
    exact h.wd i x hil hx c⟩
theorem OnF.wrote {F : Nat → Nat → Nat → Nat} {G : Int → (Nat → Nat) → Prop} (hC : OkC C) (h : OnF C D B j) (L : LsC C (bare D) B j F) (hq : q0 < cR C) (o : RegOut (regC C q0) D i0 (F q0) G (j q0) (j q0 + 1) e E B' j') (ho : e = 6 → E.off = true) :
    (e ≠ 6 → OnF C E (updN B q0 B') (updN j q0 j')) ∧ (e = 6 → OffF C j E) ∧ E.n = D.n := by
  have hn : E.n = D.n := o.near.n
  refine ⟨fun he => ?_, fun he => ⟨ho he, by rw [hn]; exact h.fit, fun L2 kp hL => ?_⟩, hn⟩
  · obtain ⟨k1, k2⟩ := o.live he
    exact ⟨k1, by rw [hn]; exact h.fit, _, LsC.other hC L hq (bare_calm E) o.near.n o.near.bad (fun x hx => o.near.live k1 hx) k2.rgc⟩
  · obtain ⟨B2, j2, q1, q2⟩ := o.boot L2 kp hL
    refine ⟨_, updN j q0 j2, fun q hq => ?_, _, LsC.other hC L hq (boot_calm E L2 kp) o.near.n o.near.bad (fun x hx => o.near.out L2 kp hL x hx) q2.rgc⟩
    by_cases c : q = q0
    · subst c
      rw [updN_same]
      exact q1
    · rw [updN_other _ _ c]
      exact .inl rfl
theorem OnF.line (hC : OkC C) (hmb : MB D) (hbb : MBB D) (h : OnF C D B j) (hq : q0 < cR C) (hi : i0 < cL C) (hj : j q0 < 4294967295) {s : ByteArray} (hs : s.size = 64) (c : Nat) :
    ∃ X, regZ (regC C q0) i0 (fun z => writeS (bankR (regC C q0)) z s) D (B q0) (j q0) c = X ∧ (X.1 = 0 ∨ X.1 = 10 ∨ X.1 = 6) ∧ (X.1 ≠ 6 → OnF C X.2.1 (updN B q0 X.2.2.1) (updN j q0 X.2.2.2.1)) ∧ (X.1 = 6 → OffF C j X.2.1) ∧ X.2.1.n = D.n ∧ X.2.2.2.1 ≤ j q0 + 1 := by
  obtain ⟨F, L⟩ := h.ls
  obtain ⟨r1, r2, r3, r4, _⟩ := hC.reg hq
  have o := reg_line r1 h.live hmb (L.rg q0 hq) hj (by rw [r4]; exact hi) hs c
  have z := OnR.regZ r1 hmb hbb (h.on hq) (i0 := i0) (c := c) hj (by rw [r4]; exact hi) (f := fun z => writeS (bankR (regC C q0)) z s) (fun z D B j h0 h1 _ h => h.line r1 h0 h1 hs)
  obtain ⟨w1, w2, w3⟩ := OnF.wrote hC h L hq o (fun q => (z.2.1 q).1)
  exact ⟨_, rfl, o.er, w1, w2, w3, z.2.2.2⟩
theorem OnF.word (hC : OkC C) (hmb : MB D) (hbb : MBB D) (h : OnF C D B j) (hq : q0 < cR C) (hi : i0 < cL C) (hj : j q0 < 4294967295) {k v : Nat} (hk : k < 8) (hv : v < 18446744073709551616) (c : Nat) :
    ∃ X, regZ (regC C q0) i0 (fun z => writeWordS (bankR (regC C q0)) z (k : Int) v) D (B q0) (j q0) c = X ∧ (X.1 = 0 ∨ X.1 = 10 ∨ X.1 = 6) ∧ (X.1 ≠ 6 → OnF C X.2.1 (updN B q0 X.2.2.1) (updN j q0 X.2.2.2.1)) ∧ (X.1 = 6 → OffF C j X.2.1) ∧ X.2.1.n = D.n ∧ X.2.2.2.1 ≤ j q0 + 1 := by
  obtain ⟨F, L⟩ := h.ls
  obtain ⟨r1, r2, r3, r4, _⟩ := hC.reg hq
  have hF : ∀ k, k < 8 → F q0 i0 k < 18446744073709551616 := fun k hk => by
    rw [← (L.rg q0 hq).wd i0 k (by rw [r4]; exact hi) hk]
    exact hmb _
  have o := reg_word r1 h.live hmb (L.rg q0 hq) hj (by rw [r4]; exact hi) hk hv hF c
  have z := OnR.regZ r1 hmb hbb (h.on hq) (i0 := i0) (c := c) hj (by rw [r4]; exact hi) (f := fun z => writeWordS (bankR (regC C q0)) z (k : Int) v) (fun z D B j h0 h1 hm h => h.word r1 hm h0 h1 hk hv)
  obtain ⟨w1, w2, w3⟩ := OnF.wrote hC h L hq o (fun q => (z.2.1 q).1)
  exact ⟨_, rfl, o.er, w1, w2, w3, z.2.2.2⟩
theorem OnF.boot (hC : OkC C) (h : OnF C D B j ∨ OffF C j D) {L : List Nat} (kp : Nat → Bool) (hL : IsPend D L) : ∃ (B2 : Nat → BkS) (j2 : Nat → Nat), (∀ q, q < cR C → j2 q = j q ∨ j2 q = j q + 1) ∧ OnF C (bootD D L kp) B2 j2 ∧ ∃ F, LsC C (bootD D L kp) B2 j2 F := by
  rcases h with h | h
  · obtain ⟨F, L0⟩ := h.ls
    have hm := boot_live kp h.live hL
    have L1 : LsC C (bootD D L kp) B j F := ⟨fun k hk => by rw [hm]; exact L0.hd k hk, fun q hq => (L0.rg q hq).keep (hC.reg hq).1 (boot_calm D L kp) rfl rfl fun x _ _ => by rw [hm]; rfl⟩
    exact ⟨B, j, fun q _ => .inl rfl, ⟨⟨rfl, fun _ => rfl⟩, h.fit, F, by rw [calm_bare (boot_calm D L kp)]; exact L1⟩, F, L1⟩
  · obtain ⟨B2, j2, q1, F, q2⟩ := h.boot L kp hL
    exact ⟨B2, j2, q1, ⟨⟨rfl, fun _ => rfl⟩, h.fit, F, by rw [calm_bare (boot_calm D L kp)]; exact q2⟩, F, q2⟩
theorem OnF.brk (hC : OkC C) (h : OnF C D B j) {k : Nat} (hk : ∀ q, q < cR C → (k : Int) < (regC C q).a ∨ (regC C q).a + tabZ (bankR (regC C q)) ≤ (k : Int)) : OnF C { D with bad := fun i => if i = k then true else D.bad i } B j := by
  obtain ⟨F, L⟩ := h.ls
  refine ⟨⟨h.live.off, h.live.buf⟩, h.fit, F, L.hd, fun q hq => ?_⟩
  have R := L.rg q hq
  refine ⟨R.ti.keep (bare_calm _) rfl (fun _ _ => rfl) (hC.reg hq).1.ok (fun l q1 q2 => ?_), R.reg, R.wd⟩
  have q1' : (regC C q).a ≤ (l : Int) := q1
  have q2' : (l : Int) < (regC C q).a + tabZ (bankR (regC C q)) := q2
  show (if l = k then true else D.bad l) = false
  rw [if_neg (by rintro rfl; have := hk q hq; omega)]
  exact R.ti.tb l q1 q2
theorem OnF.fuse (h : OnF C D B j) (f : Int) : OnF C { D with fuse := f } B j := ⟨⟨h.live.off, h.live.buf⟩, h.fit, h.ls⟩
theorem OnF.out (hC : OkC C) (h : OnF C D B j) : OffF C j { D with fuse := 0, off := true } := by
  obtain ⟨F, L0⟩ := h.ls
  refine ⟨rfl, h.fit, fun L kp hL => ?_⟩
  have hL2 : IsPend D L := hL
  have h0 : (bootD D L kp).med = (bare D).med := boot_live kp h.live hL2
  have hm : (bootD { D with fuse := 0, off := true } L kp).med = (bare D).med := h0
  exact ⟨B, j, fun q _ => .inl rfl, F, fun k hk => by rw [hm]; exact L0.hd k hk, fun q hq => (L0.rg q hq).keep (hC.reg hq).1 (boot_calm _ L kp) rfl rfl fun x _ _ => by rw [hm]⟩
end
end Go.Proofs.YtjbhallhmnahbaaGreat

/-
  Layer 9, pure: what lasts of a Make.
-/
namespace Go.Proofs.YtjbhallhmnahbaaGreat
open Go.RowKit
set_option linter.unusedVariables false

def makZ (C : CfgZ) : Nat → Nat → DevS → Int × DevS
  | 0, _, D => (0, D)
  | r + 1, k, D => if (rfmtZ (regC C k) D).1 ≠ 0 then rfmtZ (regC C k) D else makZ C r (k + 1) (rfmtZ (regC C k) D).2
def makeZ (C : CfgZ) (D : DevS) : Int × DevS :=
  if (putE D 0 zeroT).1 ≠ 0 then putE D 0 zeroT
  else if (makZ C (cR C) 0 (putE D 0 zeroT).2).1 ≠ 0 then makZ C (cR C) 0 (putE D 0 zeroT).2
  else if (putE (makZ C (cR C) 0 (putE D 0 zeroT).2).2 0 (headS C)).1 ≠ 0 then putE (makZ C (cR C) 0 (putE D 0 zeroT).2).2 0 (headS C)
  else (if tookB (putE (makZ C (cR C) 0 (putE D 0 zeroT).2).2 0 (headS C)).2 0 (headS C) = true then 0 else 10, (putE (makZ C (cR C) 0 (putE D 0 zeroT).2).2 0 (headS C)).2)
def Z9 : Nat → Nat → Nat := fun _ _ => 0
structure Gud (n : Nat) (D : DevS) : Prop where
  live : Live D
  bad : D.bad = fun _ => false
  n : D.n = n
section
variable {C : CfgZ} {n : Nat}
theorem mak_step (h : OkC C) (hn : sizeC C ≤ (n : Int)) {k : Nat} (hk : k < cR C) {D : DevS} (g : Gud n D) :
    ((fmtZ (bankR (regC C k)) (tabZ (bankR (regC C k)) + (bankR (regC C k)).l).toNat 0 D).1 = 0 → (fmtZ (bankR (regC C k)) (tabZ (bankR (regC C k)) + (bankR (regC C k)).l).toNat 0 D).2.off = false ∧ (fmtZ (bankR (regC C k)) (tabZ (bankR (regC C k)) + (bankR (regC C k)).l).toNat 0 D).2.n = D.n ∧ ∀ i : Nat, (i : Int) < (regC C k).s → loadV (fmtZ (bankR (regC C k)) (tabZ (bankR (regC C k)) + (bankR (regC C k)).l).toNat 0 D).2 (8 * (regC C k).a.toNat + i) = 0) ∧
    checkZ (bankR (regC C k)) (D.n : Int) = 0 ∧
    ((∃ E, rfmtZ (regC C k) D = (0, E) ∧ Gud n E ∧ RgC (regC C k) (bare E) B0 0 Z9 ∧ ∀ x, OutZ (bankR (regC C k)) x → E.med x = D.med x) ∨
     (∃ E, rfmtZ (regC C k) D = (6, E) ∧ E.off = true ∧ E.n = n ∧ E.bad = (fun _ => false) ∧ ∀ L kp, IsPend E L → ∀ x, OutZ (bankR (regC C k)) x → (bootD E L kp).med x = D.med x)) ∧
    (Calm D → (rfmtZ (regC C k) D).1 = 0 ∧ Calm (rfmtZ (regC C k) D).2) := by
  obtain ⟨hP, hs, ha, _, _, _, hf, hl⟩ := h.reg hk
  have hba : (bankR (regC C k)).a = (regC C k).a := rfl
  have hfit : (bankR (regC C k)).a + sizeZ (bankR (regC C k)) ≤ (D.n : Int) := by rw [g.n, hs, hba]; omega
  obtain ⟨a1, a2, a3⟩ := rfmt_last hP g.live g.bad hfit
  refine ⟨a1, ?_, ?_, a3⟩
  · unfold checkZ
    rw [if_pos hP.ok, if_neg (by omega)]
  · rcases a2 with ⟨E, b1, b2, b3, b4, b5, b6⟩ | ⟨E, b1, b2, b3, b4, b5⟩
    · exact .inl ⟨E, b1, ⟨b2, b4.trans g.bad, b3.trans g.n⟩, b5, b6⟩
    · exact .inr ⟨E, b1, b2, b3.trans g.n, b4.trans g.bad, b5⟩
theorem mak_last (h : OkC C) (hn : sizeC C ≤ (n : Int)) : ∀ (r k : Nat) (D : DevS), k + r = cR C → Gud n D → (∀ q, q < k → RgC (regC C q) (bare D) B0 0 Z9) →
    ((∃ E, makZ C r k D = (0, E) ∧ Gud n E ∧ (∀ q, q < cR C → RgC (regC C q) (bare E) B0 0 Z9) ∧ ∀ x, x < 8 → E.med x = D.med x) ∨
     (∃ E, makZ C r k D = (6, E) ∧ E.off = true ∧ E.n = n ∧ E.bad = (fun _ => false) ∧ ∀ L kp, IsPend E L → ∀ x, x < 8 → (bootD E L kp).med x = D.med x)) ∧
    (Calm D → (makZ C r k D).1 = 0 ∧ Calm (makZ C r k D).2)
  | 0, k, D, hk, g, hq => ⟨.inl ⟨D, rfl, g, fun q hq1 => hq q (by omega), fun _ _ => rfl⟩, fun hc => ⟨rfl, hc⟩⟩
  | r + 1, k, D, hk, g, hq => by
    have hkr : k < cR C := by omega
    obtain ⟨_, _, a3, a4⟩ := mak_step h hn hkr g
    obtain ⟨o1, o2⟩ := h.outs hkr
    rw [makZ]
    rcases a3 with ⟨E, b1, b2, b3, b4⟩ | ⟨E, b1, b2, b3, b4, b5⟩
    · rw [b1] at a4 ⊢
      rw [if_neg (by simp)]
      simp only at a4 ⊢
      obtain ⟨c1, c2⟩ := mak_last h hn r (k + 1) E (by omega) b2 (fun q hq1 => by
        by_cases c : q = k
        · subst c; exact b3
        · exact (hq q (by omega)).keep (h.reg (by omega)).1 (bare_calm E) (b2.n.trans g.n.symm) (b2.bad.trans g.bad.symm) fun x x1 x2 => b4 x (o2 q (by omega) c x x1 x2))
      refine ⟨?_, fun hc => c2 (a4 hc).2⟩
      rcases c1 with ⟨E2, d1, d2, d3, d4⟩ | ⟨E2, d1, d2, d3, d4, d5⟩
      · exact .inl ⟨E2, d1, d2, d3, fun x hx => (d4 x hx).trans (b4 x (o1 x hx))⟩
      · exact .inr ⟨E2, d1, d2, d3, d4, fun L kp hL x hx => (d5 L kp hL x hx).trans (b4 x (o1 x hx))⟩
    · rw [b1] at a4 ⊢
      rw [if_pos (by simp)]
      refine ⟨.inr ⟨E, rfl, b2, b3, b4, fun L kp hL x hx => b5 L kp hL x (o1 x hx)⟩, fun hc => ?_⟩
      have := (a4 hc).1
      simp at this
def TornM (C : CfgZ) (D E : DevS) : Prop :=
  (∀ x, x < 8 → E.med x = D.med x ∨ E.med x = 0) ∨ ((∀ q, q < cR C → RgC (regC C q) E B0 0 Z9) ∧ ∀ x, x < 8 → E.med x = 0 ∨ E.med x = wdL (headL C) x)
theorem headL_words (C : CfgZ) (k : Nat) : wdL (headS C).data.toList k = wdL (headL C) k := rfl
theorem make_last (h : OkC C) (hn : sizeC C ≤ (n : Int)) (D : DevS) (g : Gud n D) :
    ((∃ E, makeZ C D = (0, E) ∧ Gud n E ∧ LsC C (bare E) (fun _ => B0) (fun _ => 0) (fun _ => Z9)) ∨
     (∃ E, makeZ C D = (6, E) ∧ E.off = true ∧ E.n = n ∧ E.bad = (fun _ => false) ∧ ∀ L kp, IsPend E L → TornM C D (bootD E L kp))) ∧
    (Calm D → (makeZ C D).1 = 0 ∧ Calm (makeZ C D).2) := by
  have hb := mul_b C (k := C.r) (by have := h.r1; omega) h.r2
  have hs := h.size
  have hn1 : 0 < n := by omega
  unfold makeZ
  rcases put_live (l := 0) g.live (by rw [g.n]; exact hn1) zeroT_size with ⟨E1, e1, s1⟩ | ⟨E1, e1, s1⟩
  · have e1' : putE D 0 zeroT = (0, E1) := e1
    have hm1 : ∀ x, E1.med x = if x < 8 then 0 else D.med x := fun x => by
      rw [s1.med]
      by_cases c : x < 8
      · rw [if_pos c, if_pos ⟨by omega, by omega, by rw [g.bad]⟩]
        exact zeroT_word (by omega)
      · rw [if_neg c, if_neg (by omega)]
    have g1 : Gud n E1 := ⟨s1.live, s1.bad.trans g.bad, s1.n.trans g.n⟩
    have c1 : Calm D → Calm E1 := fun hc => by
      obtain ⟨E3, e3, s3⟩ := put_calm (l := 0) hc (by rw [g.n]; exact hn1) zeroT_size
      rw [e1] at e3
      cases e3
      exact s3.calm
    rw [e1', if_neg (by simp)]
    simp only
    obtain ⟨m1, m2⟩ := mak_last h hn (cR C) 0 E1 (by omega) g1 (fun q hq => by omega)
    rcases m1 with ⟨E2, b1, b2, b3, b4⟩ | ⟨E2, b1, b2, b3, b4, b5⟩
    · rw [b1] at m2 ⊢
      rw [if_neg (by simp)]
      simp only at m2 ⊢
      have hz2 : ∀ x, x < 8 → E2.med x = 0 := fun x hx => by rw [b4 x hx, hm1, if_pos hx]
      have hreg : ∀ q, q < cR C → 1 ≤ (regC C q).a := fun q hq => (h.reg hq).2.2.2.2.2.2.2
      rcases put_live (l := 0) b2.live (by rw [b2.n]; exact hn1) (headS_size C) with ⟨E3, e3, s3⟩ | ⟨E3, e3, s3⟩
      · have e3' : putE E2 0 (headS C) = (0, E3) := e3
        have hm3 : ∀ x, E3.med x = if x < 8 then wdL (headL C) x else E2.med x := fun x => by
          rw [s3.med]
          by_cases c : x < 8
          · rw [if_pos c, if_pos ⟨by omega, by omega, by rw [b2.bad]⟩]
            rfl
          · rw [if_neg c, if_neg (by omega)]
        rw [e3', if_neg (by simp)]
        simp only
        have ht : tookB E3 0 (headS C) = true := took_of (l := 0) (by rw [s3.n, b2.n]; exact hn1) (headS_size C) fun k hk => by
          rw [Nat.mul_zero, Nat.zero_add, hm3, if_pos hk]; rfl
        rw [if_pos ht]
        refine ⟨.inl ⟨E3, rfl, ⟨s3.live, s3.bad.trans b2.bad, s3.n.trans b2.n⟩, fun k hk => ?_, fun q hq => ?_⟩, fun hc => ⟨rfl, ?_⟩⟩
        · show E3.med k = _
          rw [hm3, if_pos hk]
        · refine (b3 q hq).keep (h.reg hq).1 (bare_calm E3) s3.n s3.bad fun x x1 x2 => ?_
          show E3.med x = E2.med x
          rw [hm3, if_neg]
          have := hreg q hq
          omega
        · obtain ⟨E4, e4, s4⟩ := put_calm (l := 0) (m2 (c1 hc)).2 (by rw [b2.n]; exact hn1) (headS_size C)
          rw [e3] at e4
          cases e4
          exact s4.calm
      · have e3' : putE E2 0 (headS C) = (6, E3) := e3
        rw [e3', if_pos (by simp)]
        refine ⟨.inr ⟨E3, rfl, s3.off, s3.n.trans b2.n, s3.bad.trans b2.bad, fun L kp hL => .inr ⟨fun q hq => ?_, fun x hx => ?_⟩⟩, fun hc => ?_⟩
        · refine (b3 q hq).keep (h.reg hq).1 (boot_calm E3 L kp) s3.n s3.bad fun x x1 x2 => ?_
          rcases boot_torn kp s3 hL x with c | ⟨j, j1, j2, _⟩
          · exact c
          · have := hreg q hq
            omega
        · rcases boot_torn kp s3 hL x with c | ⟨j, j1, j2, j3, _⟩
          · exact .inl (c.trans (hz2 x hx))
          · right
            rw [j3, headL_words]
            congr 1
            omega
        · obtain ⟨E4, e4, s4⟩ := put_calm (l := 0) (m2 (c1 hc)).2 (by rw [b2.n]; exact hn1) (headS_size C)
          rw [e3] at e4
          cases e4
    · rw [b1] at m2 ⊢
      rw [if_pos (by simp)]
      refine ⟨.inr ⟨E2, rfl, b2, b3, b4, fun L kp hL => .inl fun x hx => .inr ?_⟩, fun hc => ?_⟩
      · rw [b5 L kp hL x hx, hm1, if_pos hx]
      · have := (m2 (c1 hc)).1
        simp at this
  · have e1' : putE D 0 zeroT = (6, E1) := e1
    rw [e1', if_pos (by simp)]
    refine ⟨.inr ⟨E1, rfl, s1.off, s1.n.trans g.n, s1.bad.trans g.bad, fun L kp hL => .inl fun x hx => ?_⟩, fun hc => ?_⟩
    · rcases boot_torn kp s1 hL x with c | ⟨j, j1, j2, j3, _⟩
      · exact .inl c
      · right
        rw [j3]
        exact zeroT_word (by omega)
    · obtain ⟨E3, e3, s3⟩ := put_calm (l := 0) hc (by rw [g.n]; exact hn1) zeroT_size
      rw [e1] at e3
      cases e3
end
end Go.Proofs.YtjbhallhmnahbaaGreat

/-
  Layer 9, pure: a region's write on a calm device: done, or no spare left.
-/
namespace Go.Proofs.YtjbhallhmnahbaaGreat
open Go.RowKit
set_option linter.unusedVariables false

section
variable {p : PlanZ} {D E : DevS} {B : BkS} {s : ByteArray} {i : Int}
theorem ens_used (hok : okZ p = true) (hi : inP p i) (hs : s.size = 64) : ∀ (n : Nat) (D : DevS) (B : BkS), TI p D B → (B.used : Int) + (n : Int) = p.s → (ensS p i s n D B).1 = 0 ∨ ((ensS p i s n D B).1 = 10 ∧ ((ensS p i s n D B).2.2.used : Int) = p.s)
  | 0, D, B, h, hu => .inr ⟨rfl, by show (B.used : Int) = p.s; omega⟩
  | n + 1, D, B, h, hu => by
    obtain ⟨t, E, B', r, t1, t2, t3, t4⟩ := rep_calm h hok hi hs (by omega)
    rw [ensS, r]
    cases t with
    | true => exact .inl (by simp)
    | false =>
      have := ens_used hok hi hs n E B' t1 (by rw [t4]; omega)
      simpa using this
theorem ensure_used (hok : okZ p = true) (hi : inP p i) (hs : s.size = 64) (z : Int) (h : TI p D B) : (ensureS p i z s D B).1 = 0 ∨ ((ensureS p i z s D B).1 = 10 ∧ ((ensureS p i z s D B).2.2.used : Int) = p.s) := by
  unfold ensureS
  split
  · exact .inl rfl
  · have hu := h.us
    exact ens_used hok hi hs _ _ _ h (by omega)
theorem ensure_calm (hok : okZ p = true) (hi : inP p i) (hs : s.size = 64) (z : Int) (h : TI p D B) : TI p (ensureS p i z s D B).2.1 (ensureS p i z s D B).2.2 := by
  unfold ensureS
  split
  · exact h
  · have hu := h.us
    obtain ⟨e, E, B', q1, q2, q3, q4⟩ := ens_calm hok hi hs (p.s - (B.used : Int)).toNat D B h (by omega)
    rw [q1]
    exact q2
theorem write_used (h : TI p D B) (hok : okZ p = true) (hi : inP p i) (hs : s.size = 64) : Calm (writeS p i s D B).2.1 ∧ ((writeS p i s D B).1 = 0 ∨ ((writeS p i s D B).1 = 10 ∧ ((writeS p i s D B).2.2.used : Int) = p.s)) := by
  have hc := h.calm
  have hb := calm_bare hc
  obtain ⟨l, hl, hl2, hl1, hl3⟩ := h.place hok hi
  obtain ⟨E2, e2, s2⟩ := put_calm (l := l) hc hl2 hs
  have T2 : TI p E2 B := h.keep s2.calm s2.n (fun x hx => by rw [s2.med, if_neg (by omega)]) hok (fun l' q1 q2 => by rw [s2.bad]; exact h.tb l' q1 q2)
  have hw : writeS p i s D B = ensureS p i (l : Int) s E2 B := by
    unfold writeS
    rw [if_neg (by simp [hs]), if_pos hi, hl, e2]
    show (if (0 : Int) ≠ 0 then _ else _) = _
    rw [if_neg (by simp)]
  rw [hw]
  exact ⟨(ensure_calm hok hi hs _ T2).calm, ensure_used hok hi hs _ T2⟩
theorem ww_used {k v : Nat} (h : TI p D B) (hok : okZ p = true) (hi : inP p i) (hk : k < 8) : Calm (writeWordS p i (k : Int) v D B).2.1 ∧ ((writeWordS p i (k : Int) v D B).1 = 0 ∨ ((writeWordS p i (k : Int) v D B).1 = 10 ∧ ((writeWordS p i (k : Int) v D B).2.2.used : Int) = p.s)) := by
  have hc := h.calm
  obtain ⟨l, hl, hl2, hl1, hl3⟩ := h.place hok hi
  obtain ⟨E2, e2, s2⟩ := putword_calm (l := l) (k := k) (v := v) hc hl2 hk
  have T2 : TI p E2 B := h.keep s2.calm s2.n (fun x hx => by rw [s2.med, if_neg (by omega)]) hok (fun l' q1 q2 => by rw [s2.bad]; exact h.tb l' q1 q2)
  have hw : ∃ s : ByteArray, s.size = 64 ∧ writeWordS p i (k : Int) v D B = ensureS p i (l : Int) s E2 B := by
    refine ⟨textU (updF (lineF D l) k v), textU_size _, ?_⟩
    unfold writeWordS
    rw [if_neg (by omega), if_pos hi, hc.off, hl, Int.toNat_natCast, Int.toNat_natCast, e2]
    simp
  obtain ⟨s, hs, hw⟩ := hw
  rw [hw]
  exact ⟨(ensure_calm hok hi hs _ T2).calm, ensure_used hok hi hs _ T2⟩
end
section
variable {P : PlanR} {D : DevS} {B : BkS} {j i0 : Nat} {F : Nat → Nat → Nat}
theorem mov_used (hP : OkR P) (hc : Calm D) (hm : ∀ x, D.med x < 18446744073709551616) (h : RgC P D B j F) (hj : j < 4294967295) :
    Calm (movZ P D B j).2.1 ∧ ((movZ P D B j).1 = 0 ∨ ((movZ P D B j).1 = 10 ∧ ((movZ P D B j).2.2.used : Int) = P.s)) ∧ (D.bad = (fun _ => false) → (movZ P D B j).1 = 0 ∧ (movZ P D B j).2.1.bad = (fun _ => false)) := by
  have hle3 : toN P.l j ≤ P.l := by unfold toN; omega
  have hle4 : fromN P.l j ≤ P.l := by unfold fromN; split <;> omega
  have hif : inP (bankR P) (fromI P j) := by rw [fromI_N]; exact inR P (by omega) (by omega)
  have hit : inP (bankR P) (toI P j) := by rw [toI_N]; exact inR P (by omega) (by omega)
  have hir : inP (bankR P) ((P.l : Int) + 1) := inR P (by omega) (by omega)
  have hbs : (bankR P).s = P.s := rfl
  have hb := calm_bare hc
  obtain ⟨lf, pf, _, _, _⟩ := h.ti.place hP.ok hif
  have hread : readR D (bankR P) B (fromI P j) = (⟨(getT D lf).toArray⟩, 0) := by
    unfold readR
    rw [if_pos hif, hc.off, pf, Int.toNat_natCast]
    rfl
  have hT64 := line_size D lf
  obtain ⟨T, hT⟩ : ∃ T : ByteArray, T = ⟨(getT D lf).toArray⟩ := ⟨_, rfl⟩
  have h' : RgC P (bare D) B j F := by rw [hb]; exact h
  unfold movZ
  rw [hread]
  rw [← hT] at hT64 ⊢
  simp only
  obtain ⟨w1, w2⟩ := write_used h.ti hP.ok hit hT64
  obtain ⟨l1, e1, D1, B1, p1, q1, x1⟩ := write_last h'.ti hc.live hP.ok hit hT64
  obtain ⟨n1, n2, n3⟩ := x1.near hP.ok h'.ti hit p1
  rw [q1] at w1 w2 ⊢
  simp only at w1 w2 ⊢
  have hgood : D.bad = (fun _ => false) → e1 = 0 := fun hbad => by
    obtain ⟨l2, g1, g2, g3, g4, g5⟩ := write_good h'.ti hc.live hbad hP.ok hit hT64
    rcases g5 with ⟨E, g6, _⟩ | ⟨E, g6, _, g7⟩
    · rw [q1] at g6; exact (Prod.mk.inj g6).1
    · exact absurd hc g7
  by_cases c1 : e1 = 0
  · rw [if_pos c1]
    obtain ⟨t1, t2⟩ := n2 (by omega)
    have hb1 := calm_bare w1
    rw [hb1] at t2
    obtain ⟨hv1, hv2⟩ := pkN_val hP (j + 1) (by omega)
    obtain ⟨y1, y2⟩ := ww_used (k := 0) (v := pkN P (j + 1)) t2 hP.ok hir (by omega)
    have y1' : Calm (writeWordS (bankR P) ((P.l : Int) + 1) 0 (pkN P (j + 1)) D1 B1).2.1 := y1
    have y2' : (writeWordS (bankR P) ((P.l : Int) + 1) 0 (pkN P (j + 1)) D1 B1).1 = 0 ∨ ((writeWordS (bankR P) ((P.l : Int) + 1) 0 (pkN P (j + 1)) D1 B1).1 = 10 ∧ ((writeWordS (bankR P) ((P.l : Int) + 1) 0 (pkN P (j + 1)) D1 B1).2.2.used : Int) = P.s) := y2
    refine ⟨y1', y2', fun hbad => ?_⟩
    have hmed : ∀ l : Nat, placeP (bankR P) B1 ((P.l : Int) + 1) = (l : Int) → ∀ k, k < 8 → D1.med (8 * l + k) < 18446744073709551616 := fun l hl k hk => by
      rcases x1 with ⟨_, v1, yy⟩ | ⟨z1, _⟩ | ⟨z1, _⟩
      · have hne : ((P.l : Int) + 1) ≠ toI P j := by rw [toI_N]; omega
        have := (yy.cnt h'.ti hP.ok hit p1).1 ((P.l : Int) + 1) hir hne k hk
        unfold cntZ at this
        rw [hl, Int.toNat_natCast] at this
        rw [show D1.med (8 * l + k) = (bare D1).med (8 * l + k) from rfl, this]
        exact hm _
      · omega
      · omega
    have t2' : TI (bankR P) (bare D1) B1 := by rw [hb1]; exact t2
    obtain ⟨l2, g1, g2, g3, g4, g5⟩ := ww_good (k := 0) (v := pkN P (j + 1)) t2' w1.live (by rw [n1.bad, hbad]) hmed hv2 hP.ok hir (by omega)
    rcases g5 with ⟨E, g6, g7, _⟩ | ⟨E, g6, _, g7⟩
    · have g6' : writeWordS (bankR P) ((P.l : Int) + 1) 0 (pkN P (j + 1)) D1 B1 = (0, E, B1) := g6
      rw [g6']
      exact ⟨rfl, by rw [g7.bad, n1.bad, hbad]⟩
    · exact absurd w1 g7
  · rw [if_neg c1]
    exact ⟨w1, w2, fun hbad => absurd (hgood hbad) c1⟩
theorem reg_used {f : Int → DevS → BkS → Int × DevS × BkS} (hP : OkR P) (hc : Calm D) (hm : ∀ x, D.med x < 18446744073709551616) (h : RgC P D B j F) (hj : j < 4294967295) (hi : i0 < P.l) (c : Nat)
    (hf : ∀ (D : DevS) (B : BkS) (j : Nat), Calm D → RgC P D B j F → Calm (f (slotJ P j i0) D B).2.1 ∧ ((f (slotJ P j i0) D B).1 = 0 ∨ ((f (slotJ P j i0) D B).1 = 10 ∧ ((f (slotJ P j i0) D B).2.2.used : Int) = P.s)) ∧ (D.bad = (fun _ => false) → (f (slotJ P j i0) D B).1 = 0)) :
    Calm (regZ P i0 f D B j c).2.1 ∧ ((regZ P i0 f D B j c).1 = 0 ∨ ((regZ P i0 f D B j c).1 = 10 ∧ ((regZ P i0 f D B j c).2.2.1.used : Int) = P.s)) ∧ (D.bad = (fun _ => false) → (regZ P i0 f D B j c).1 = 0) := by
  unfold regZ
  by_cases hcc : P.psi ≤ (c : Int)
  · rw [if_pos hcc]
    obtain ⟨m1, m2, m3⟩ := mov_used hP hc hm h hj
    obtain ⟨_, _, _, hM⟩ := move_last hP hc.live hm (by rw [calm_bare hc]; exact h) hj
    by_cases hz : (movZ P D B j).1 = 0
    · rw [if_pos hz]
      simp only
      rcases hM with ⟨_, _, a3⟩ | ⟨a1, _⟩
      · rw [calm_bare m1] at a3
        obtain ⟨k1, k2, k3⟩ := hf _ _ (j + 1) m1 a3
        exact ⟨k1, k2, fun hb => k3 (m3 hb).2⟩
      · omega
    · rw [if_neg hz]
      simp only
      exact ⟨m1, m2, fun hb => (m3 hb).1⟩
  · rw [if_neg hcc]
    exact hf D B j hc h
theorem line_used (hP : OkR P) (hi : i0 < P.l) {S : ByteArray} (hS : S.size = 64) (D : DevS) (B : BkS) (j : Nat) (hc : Calm D) (h : RgC P D B j F) : Calm (writeS (bankR P) (slotJ P j i0) S D B).2.1 ∧ ((writeS (bankR P) (slotJ P j i0) S D B).1 = 0 ∨ ((writeS (bankR P) (slotJ P j i0) S D B).1 = 10 ∧ ((writeS (bankR P) (slotJ P j i0) S D B).2.2.used : Int) = P.s)) ∧ (D.bad = (fun _ => false) → (writeS (bankR P) (slotJ P j i0) S D B).1 = 0) := by
  have hle := slotN_le (j := j) (i := i0) hP.l1
  rw [slotJ_N P j i0 hP.l1]
  have hin := inR P (z := ((slotN P.l j i0 : Nat) : Int)) (by omega) (by omega)
  obtain ⟨w1, w2⟩ := write_used h.ti hP.ok hin hS
  refine ⟨w1, w2, fun hb => ?_⟩
  obtain ⟨l2, g1, g2, g3, g4, g5⟩ := write_good (by rw [calm_bare hc]; exact h.ti) hc.live hb hP.ok hin hS
  rcases g5 with ⟨E, g6, _⟩ | ⟨E, g6, _, g7⟩
  · rw [g6]
  · exact absurd hc g7
end
end Go.Proofs.YtjbhallhmnahbaaGreat

/-
  Layer 9, pure: a list at work on a calm device, told by what its lines have.
-/
namespace Go.Proofs.YtjbhallhmnahbaaGreat
open Go.RowKit
set_option linter.unusedVariables false

structure FlV where
  W : Nat → Nat
  U : Nat → Nat
  J : Nat → Nat
def vOf (C : CfgZ) (B : Nat → BkS) (j : Nat → Nat) (i : Nat → Nat) : FlV := ⟨fun l => (placeP (bankR (regC C (qL C l))) (B (qL C l)) (slotJ (regC C (qL C l)) (j (qL C l)) (i l))).toNat, fun q => (B q).used, j⟩
structure FlD (C : CfgZ) (g : Bool) (F : Nat → Nat → Nat) (V : FlV) (N : Nat) (D : DevS) (B : Nat → BkS) (j : Nat → Nat) : Prop where
  calm : Calm D
  gd : g = true → D.bad = fun _ => false
  fit : sizeC C ≤ (D.n : Int)
  ls : ∃ G, LsC C D B j G ∧ ∀ l k, l < cR C * cL C → k < 8 → G (qL C l) (iL C l) k = F l k
  vs : V = vOf C B j (iL C)
  mv : ∀ q, q < cR C → j q ≤ N
  bd : Bd D N
section
variable {C : CfgZ} {g : Bool} {F : Nat → Nat → Nat} {V : FlV} {N : Nat} {D E : DevS} {B : Nat → BkS} {j : Nat → Nat}
theorem FlD.pos (hC : OkC C) (h : FlD C g F V N D B j) {l : Nat} (hl : l < cR C * cL C) : placeP (bankR (regC C (qL C l))) (B (qL C l)) (slotJ (regC C (qL C l)) (j (qL C l)) (iL C l)) = (V.W l : Int) ∧ (regC C (qL C l)).a + tabZ (bankR (regC C (qL C l))) ≤ (V.W l : Int) ∧ (V.W l : Int) < (regC C (qL C l)).a + sizeZ (bankR (regC C (qL C l))) ∧ V.W l < D.n := by
  obtain ⟨G, L, _⟩ := h.ls
  obtain ⟨hq, hi⟩ := qi_in hC hl
  obtain ⟨r1, r2, r3, r4, r5, r6, r7, r8⟩ := hC.reg hq
  have hle := slotN_le (j := j (qL C l)) (i := iL C l) r1.l1
  have hin : inP (bankR (regC C (qL C l))) (slotJ (regC C (qL C l)) (j (qL C l)) (iL C l)) := by
    rw [slotJ_N _ _ _ r1.l1]
    exact inR _ (by omega) (by omega)
  have T := (L.rg _ hq).ti
  obtain ⟨l0, p0, p1, p2, p3⟩ := T.place r1.ok hin
  have hu := T.us
  have e : V.W l = l0 := by rw [h.vs]; show (placeP _ _ _).toNat = l0; rw [p0, Int.toNat_natCast]
  obtain ⟨q1, q2, q3, q4, q5, q6⟩ := rg_nums r1
  have hba : (bankR (regC C (qL C l))).a = (regC C (qL C l)).a := rfl
  have hbl : (bankR (regC C (qL C l))).l = ((regC C (qL C l)).l : Int) + 2 := rfl
  have hbs : (bankR (regC C (qL C l))).s = (regC C (qL C l)).s := rfl
  unfold spareP at p3
  rw [e, p0]
  exact ⟨rfl, by omega, by omega, p1⟩
theorem FlD.inj (hC : OkC C) (h : FlD C g F V N D B j) {l l2 : Nat} (hl : l < cR C * cL C) (hl2 : l2 < cR C * cL C) (e : V.W l = V.W l2) : l = l2 := by
  obtain ⟨a1, a2, a3, _⟩ := h.pos hC hl
  obtain ⟨b1, b2, b3, _⟩ := h.pos hC hl2
  obtain ⟨hq, hi⟩ := qi_in hC hl
  obtain ⟨hq2, hi2⟩ := qi_in hC hl2
  by_cases c : qL C l = qL C l2
  · obtain ⟨G, L, _⟩ := h.ls
    obtain ⟨r1, r2, r3, r4, r5, r6, r7, r8⟩ := hC.reg hq
    have hle := slotN_le (j := j (qL C l)) (i := iL C l) r1.l1
    have hle2 := slotN_le (j := j (qL C l)) (i := iL C l2) r1.l1
    rw [← c] at b1
    rw [slotJ_N _ _ _ r1.l1] at a1 b1
    have hs := place_inj (L.rg _ hq).ti (inR (regC C (qL C l)) (z := ((slotN (regC C (qL C l)).l (j (qL C l)) (iL C l) : Nat) : Int)) (by omega) (by omega)) (inR (regC C (qL C l)) (z := ((slotN (regC C (qL C l)).l (j (qL C l)) (iL C l2) : Nat) : Int)) (by omega) (by omega)) (a1.trans (by rw [e, b1]))
    exact qi_inj hC hl hl2 c (slotN_inj (j := j (qL C l)) r1.l1 (by rw [r4]; exact hi) (by rw [r4]; exact hi2) (by omega))
  · have ha := hC.apart hq hq2 c
    have ha' : (regC C (qL C l)).a + sizeZ (bankR (regC C (qL C l))) ≤ (regC C (qL C l2)).a ∨ (regC C (qL C l2)).a + sizeZ (bankR (regC C (qL C l2))) ≤ (regC C (qL C l)).a := ha
    obtain ⟨r1, _⟩ := hC.reg hq
    obtain ⟨r1', _⟩ := hC.reg hq2
    obtain ⟨q1, q2, q3, q4, q5, q6⟩ := rg_nums r1
    obtain ⟨q1', q2', q3', q4', q5', q6'⟩ := rg_nums r1'
    omega
theorem FlD.read (hC : OkC C) (h : FlD C g F V N D B j) (hm : ∀ x, D.med x < 18446744073709551616) {l : Nat} (hl : l < cR C * cL C) : readR D (bankR (regC C (qL C l))) (B (qL C l)) (slotJ (regC C (qL C l)) (j (qL C l)) (iL C l)) = (lnF F l, 0) ∧ (lnF F l).size = 64 ∧ ∀ k, k < 8 → wdL (lnF F l).data.toList k = F l k := by
  obtain ⟨G, L, hF⟩ := h.ls
  obtain ⟨hq, hi⟩ := qi_in hC hl
  obtain ⟨r1, r2, r3, r4, _⟩ := hC.reg hq
  have hle := slotN_le (j := j (qL C l)) (i := iL C l) r1.l1
  obtain ⟨T, t1, t2, t3⟩ := cnt_read (L.rg _ hq).ti r1.ok hm (inR (regC C (qL C l)) (z := ((slotN (regC C (qL C l)).l (j (qL C l)) (iL C l) : Nat) : Int)) (by omega) (by omega))
  have hT : ∀ k, k < 8 → wdL T.data.toList k = F l k := fun k hk => by rw [t3 k hk, (L.rg _ hq).wd _ k (by rw [r4]; exact hi) hk, hF l k hl hk]
  have hx : ∃ t : ByteArray, t.size = 64 ∧ ∀ k, k < 8 → wdL t.data.toList k = F l k := ⟨T, t2, hT⟩
  have e : lnF F l = T := by
    unfold lnF
    rw [dif_pos hx]
    obtain ⟨s1, s2⟩ := Classical.choose_spec hx
    exact bytes_eq s1 t2 fun k hk => by rw [s2 k hk, hT k hk]
  rw [slotJ_N _ _ _ r1.l1, e]
  exact ⟨t1, t2, hT⟩
theorem FlD.next (hC : OkC C) (h : FlD C g F V N D B j) {l : Nat} (hl : l < cR C * cL C) {e : Int} {G0 : Int → (Nat → Nat) → Prop} {B' : BkS} {j' N' : Nat} {H : Nat → Nat} (hcE : Calm E) (hbE : Bd E N') (hN : N + 1 ≤ N')
    {Gf : Nat → Nat → Nat → Nat} (L : LsC C D B j Gf) (hGF : ∀ l k, l < cR C * cL C → k < 8 → Gf (qL C l) (iL C l) k = F l k)
    (k : RegOut (regC C (qL C l)) D (iL C l) (Gf (qL C l)) G0 (j (qL C l)) (j (qL C l) + 1) e E B' j') (he : e ≠ 6) (hH : ∀ X, G0 e X → IsW H X) :
    FlD C g (fun l2 k => if l2 = l then H k else F l2 k) (vOf C (updN B (qL C l) B') (updN j (qL C l) j') (iL C)) N' E (updN B (qL C l) B') (updN j (qL C l) j') := by
  obtain ⟨hq, hi⟩ := qi_in hC hl
  obtain ⟨r1, r2, r3, r4, _⟩ := hC.reg hq
  obtain ⟨k1, k2⟩ := k.live he
  rw [calm_bare hcE] at k2
  have hr : RgC (regC C (qL C l)) E B' j' (fun i k => if i = iL C l then H k else Gf (qL C l) i k) := ⟨k2.ti, k2.reg, fun i x hil hx => by
    by_cases c : i = iL C l
    · rw [if_pos c, c]
      exact hH _ k2.got x hx
    · rw [if_neg c]
      exact k2.wd i x hil hx c⟩
  refine ⟨hcE, fun hg => by rw [k.near.bad]; exact h.gd hg, by rw [k.near.n]; exact h.fit, ⟨_, LsC.other hC (by rw [calm_bare h.calm]; exact L) hq hcE k.near.n k.near.bad (fun x hx => k.near.live k1 hx) hr, fun l2 x hl2 hx => ?_⟩, rfl, fun q hq1 => ?_, hbE⟩
  · by_cases c : qL C l2 = qL C l
    · rw [c, updN_same]
      by_cases d : iL C l2 = iL C l
      · rw [if_pos d, if_pos (qi_inj hC hl2 hl c d)]
      · rw [if_neg d, if_neg (fun e => d (by rw [e])), ← c]
        exact hGF l2 x hl2 hx
    · rw [updN_other _ _ c, if_neg (fun e => c (by rw [e]))]
      exact hGF l2 x hl2 hx
  · by_cases c : q = qL C l
    · subst c
      rw [updN_same]
      have := h.mv _ hq1
      have := k.jl
      omega
    · rw [updN_other _ _ c]
      have := h.mv _ hq1
      omega
end
end Go.Proofs.YtjbhallhmnahbaaGreat
