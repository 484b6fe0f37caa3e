/-
  HpAc: HuA, HuE.
-/
import Derived.Test.YtefmbchebobceaaGreatHkAa
import Derived.Test.YtefmbchebobceaaGreatHkAb
import Derived.Test.YtefmbchebobceaaGreatHkAc
import Derived.Test.YtefmbchebobceaaGreatHkAd
import Derived.Test.YtefmbchebobceaaGreatHkAe
import Derived.Test.YtefmbchebobceaaGreatHkAf
import Derived.Test.YtefmbchebobceaaGreatHkAg
import Derived.Test.YtefmbchebobceaaGreatHkAh
import Derived.Test.YtefmbchebobceaaGreatHkAi
import Derived.Test.YtefmbchebobceaaGreatHkAj
import Derived.Test.YtefmbchebobceaaGreatHkAk
import Derived.Test.YtefmbchebobceaaGreatHkAl
import Derived.Test.YtefmbchebobceaaGreatHkAm
import Derived.Test.YtefmbchebobceaaGreatHkAn
import Derived.Test.YtefmbchebobceaaGreatHkAo
import Derived.Test.YtefmbchebobceaaGreatHkAp
import Derived.Test.YtefmbchebobceaaGreatHkAq
import Derived.Test.YtefmbchebobceaaGreatHkAr
import Derived.Test.YtefmbchebobceaaGreatHkAs
import Derived.Test.YtefmbchebobceaaGreatHkAt
import Derived.Test.YtefmbchebobceaaGreatHkAu
import Derived.Test.YtefmbchebobceaaGreatHkAv
import Derived.Test.YtefmbchebobceaaGreatHkAw
import Derived.Test.YtefmbchebobceaaGreatHkAx
import Derived.Test.YtefmbchebobceaaGreatHkAy
import Derived.Test.YtefmbchebobceaaGreatHkAz
import Derived.Test.YtefmbchebobceaaGreatHkBa
import Derived.Test.YtefmbchebobceaaGreatHkBb
import Derived.Test.YtefmbchebobceaaGreatHkBc
import Derived.Test.YtefmbchebobceaaGreatHkBd
import Derived.Test.YtefmbchebobceaaGreatHkBe
import Derived.Test.YtefmbchebobceaaGreatHkBf
import Derived.Test.YtefmbchebobceaaGreatHkBg
import Derived.Test.YtefmbchebobceaaGreatHkBh
import Derived.Test.YtefmbchebobceaaGreatHkBi
import Derived.Test.YtefmbchebobceaaGreatHkBj
import Derived.Test.YtefmbchebobceaaGreatHkBk
import Derived.Test.YtefmbchebobceaaGreatHpAa
import Derived.Test.YtefmbchebobceaaGreatHpAb
import Derived.WalkKit
import Derived.Handy
import Derived.Lib.Hide
import Derived.Deep.QuietTactic
import Derived.BigQuiet
import Derived.KernelRfl
import Derived.StillTailTactics
import Derived.IntWalk
import Derived.Maps.RangeWalk
import Derived.Maps.OwnSet
import Derived.Test.YtefmbchebobceaaGreatRows
import Derived.Lib.AppendStr
import Derived.Shelf.Strings.Repeat
import Derived.Ground.NamesProg
import Derived.Lib.Agree
import Derived.Deep.MidRow
import Derived.Deep.RegionHeld3
import Derived.Deep.CutBlock
import Derived.ChangeSlices
import Derived.Deep.Slices
import Derived.Deep.Grids
import Derived.Deep.LoopGhost
import Derived.Deep.RegionLaw
import Derived.Deep.AppendLies

set_option linter.unusedVariables false

/-
  A list at work on a device that may lose its power (unless cm) or whose lines may be bad (unless g).
-/
namespace Go.Proofs.YtefmbchebobceaaGreat
open Go.RowKit
set_option linter.unusedVariables false

theorem per_bdX {D : DevS} {c : Nat} (h : Bd D c) (S : Nat → Bool) (l : Nat) : 0 ≤ perWear D (linesOf S) l ∧ perWear D (linesOf S) l ≤ ((c + 1 : Nat) : Int) := by
  have := h.2 l
  unfold perWear
  split <;> omega
theorem boot_bdX {D : DevS} {c : Nat} {L : List Nat} {kp : Nat → Bool} (h : Bd D c) : Bd (bootD D L kp) (c + 1) := ⟨by have := h.1; show D.cnt ≤ c + 1; omega, fun l => per_bdX h _ l⟩
theorem LsC.bootX {C : CfgZ} {D : DevS} {B : Nat → BkS} {j : Nat → Nat} {G : Nat → Nat → Nat → Nat} (hC : OkC C) (hd : Live D) (h : LsC C (bare D) B j G) {L : List Nat} {kp : Nat → Bool} (hL : IsPend D L) : LsC C (bootD D L kp) B j G := by
  have hm := boot_live kp hd hL
  refine ⟨fun k hk => by rw [hm]; exact h.hd k hk, fun q hq => (h.rg q hq).keep (hC.reg hq).1 (boot_calm D L kp) rfl rfl fun x _ _ => by rw [hm]; rfl⟩
theorem loadV_bare {D : DevS} (h : Live D) (z : Nat) : loadV (bare D) z = loadV D z := by
  unfold loadV bare
  simp [h.buf]
theorem getT_bare {D : DevS} (h : Live D) (l : Nat) : getT (bare D) l = getT D l := by
  unfold getT
  simp only [loadV_bare h]
theorem readR_bare {D : DevS} (h : Live D) (p : PlanZ) (B : BkS) (i : Int) : readR (bare D) p B i = readR D p B i := by
  unfold readR
  rw [h.off, getT_bare h]
  rfl
section
variable {P : PlanR} {D : DevS} {B : BkS} {j i0 : Nat} {F : Nat → Nat → Nat}
/-- No line is bad: a write is done, or the power fails. -/
theorem reg_good {f : Int → DevS → BkS → Int × DevS × BkS} (hP : OkR P) (hd : Live D) (hb : D.bad = fun _ => false) (hm : ∀ x, D.med x < 18446744073709551616) (h : RgC P (bare D) B j F) (hj : j < 4294967295) (c : Nat)
    (key : ∀ (D : DevS) (B : BkS) (j : Nat), Live D → D.bad = (fun _ => false) → RgC P (bare D) B j F → (f (slotJ P j i0) D B).1 = 0 ∨ (f (slotJ P j i0) D B).1 = 6) :
    (regZ P i0 f D B j c).1 = 0 ∨ (regZ P i0 f D B j c).1 = 6 := by
  unfold regZ
  by_cases hc : P.psi ≤ (c : Int)
  · rw [if_pos hc]
    have g := mov_good hP hd hb hm h hj
    obtain ⟨_, _, hn, hM⟩ := move_last hP hd hm h hj
    obtain ⟨m1, m2⟩ := move_out hP hd hm h hj
    rcases hM with ⟨a1, a2, a3⟩ | ⟨a1, a2⟩
    · rw [if_pos a1]
      exact key _ _ _ a2 (m1.bad.trans hb) a3
    · rw [if_neg (by omega)]
      exact g
  · rw [if_neg hc]
    exact key D B j hd hb h
theorem regword_good (hP : OkR P) (hd : Live D) (hb : D.bad = fun _ => false) (hm : ∀ x, D.med x < 18446744073709551616) (h : RgC P (bare D) B j F) (hj : j < 4294967295) (hi : i0 < P.l) {k v : Nat} (hk : k < 8) (hv : v < 18446744073709551616) (hF : ∀ k, k < 8 → F i0 k < 18446744073709551616) (c : Nat) :
    (regZ P i0 (fun z => writeWordS (bankR P) z (k : Int) v) D B j c).1 = 0 ∨ (regZ P i0 (fun z => writeWordS (bankR P) z (k : Int) v) D B j c).1 = 6 := by
  refine reg_good hP hd hb hm h hj c fun D B j hd hb h => ?_
  have hle := slotN_le (j := j) (i := i0) hP.l1
  rw [slotJ_N P j i0 hP.l1]
  obtain ⟨_, _, _, _, _, g⟩ := ww_good (k := k) (v := v) h.ti hd hb (fun l hl k hk => by
    have := h.wd i0 k hi hk
    unfold cntZ at this
    rw [hl, Int.toNat_natCast] at this
    have t2 : D.med (8 * l + k) = F i0 k := this
    rw [t2]
    exact hF k hk) hv hP.ok (inR P (z := ((slotN P.l j i0 : Nat) : Int)) (by omega) (by omega)) hk
  rcases g with ⟨E, q, _⟩ | ⟨E, q, _⟩ <;> rw [q]
  · exact .inl rfl
  · exact .inr rfl
end
section
variable {C : CfgZ} {g cm : Bool} {F F' : Nat → Nat → Nat} {V : FlV} {N : Nat} {D E : DevS} {B : Nat → BkS} {j : Nat → Nat} {l : Nat} {e : Int} {G0 : Int → (Nat → Nat) → Prop} {B' : BkS} {j' N' : Nat} {H : Nat → Nat} {Gf : Nat → Nat → Nat → Nat}
/-- Behind a write, the power lasting. -/
theorem FlD.next2 (hC : OkC C) (h : FlD C g F V N (bare D) B j) (hl : l < cR C * cL C) (hbE : Bd E N') (hN : N + 1 ≤ N')
    (L : LsC C (bare D) B j Gf) (hGF : ∀ l k, l < cR C * cL C → k < 8 → Gf (qL C l) (iL C l) k = F l k)
    (k : RegOut (regC C (qL C l)) D (iL C l) (Gf (qL C l)) G0 (j (qL C l)) (j (qL C l) + 1) e E B' j') (he : e ≠ 6) (hH : ∀ X, G0 e X → IsW H X) :
    FlD C g (fun l2 k => if l2 = l then H k else F l2 k) (vOf C (updN B (qL C l) B') (updN j (qL C l) j') (iL C)) N' (bare E) (updN B (qL C l) B') (updN j (qL C l) j') ∧ Live E := by
  obtain ⟨hq, hi⟩ := qi_in hC hl
  obtain ⟨r1, r2, r3, r4, r5, r6, r7, r8⟩ := hC.reg hq
  obtain ⟨k1, k2⟩ := k.live he
  have hr : RgC (regC C (qL C l)) (bare E) B' j' (fun i k => if i = iL C l then H k else Gf (qL C l) i k) := ⟨k2.ti, k2.reg, fun i x hil hx => by
    by_cases c : i = iL C l
    · rw [if_pos c, c]
      exact hH _ k2.got x hx
    · rw [if_neg c]
      exact k2.wd i x hil hx c⟩
  refine ⟨⟨bare_calm E, fun hg => k.near.bad.trans (h.gd hg), ?_, ⟨_, LsC.other hC L hq (bare_calm E) k.near.n k.near.bad (fun x hx => k.near.live k1 hx) hr, fun l2 x hl2 hx => ?_⟩, rfl, fun q hq1 => ?_, hbE⟩, k1⟩
  · show sizeC C ≤ (E.n : Int)
    rw [k.near.n]
    exact h.fit
  · by_cases c : qL C l2 = qL C l
    · rw [c, updN_same]
      by_cases d : iL C l2 = iL C l
      · rw [if_pos d, if_pos (qi_inj hC hl2 hl c d)]
      · rw [if_neg d, if_neg (fun e => d (by rw [e])), ← c]
        exact hGF l2 x hl2 hx
    · rw [updN_other _ _ c, if_neg (fun e => c (by rw [e]))]
      exact hGF l2 x hl2 hx
  · by_cases c : q = qL C l
    · subst c
      rw [updN_same]
      have := h.mv _ hq1
      have := k.jl
      omega
    · rw [updN_other _ _ c]
      have := h.mv _ hq1
      omega
/-- Behind a write and Boot. -/
theorem FlD.torn2 (hC : OkC C) (h : FlD C g F V N (bare D) B j) (hl : l < cR C * cL C) (hN : N + 1 ≤ N')
    (L : LsC C (bare D) B j Gf) (hGF : ∀ l k, l < cR C * cL C → k < 8 → Gf (qL C l) (iL C l) k = F l k)
    (k : RegOut (regC C (qL C l)) D (iL C l) (Gf (qL C l)) G0 (j (qL C l)) (j (qL C l) + 1) e E B' j') {P : List Nat} {kp : Nat → Bool} (hP : IsPend E P) (hbd : Bd (bootD E P kp) N') :
    ∃ (H : Nat → Nat) (V' : FlV) (B2 : Nat → BkS) (j2 : Nat → Nat), FlD C g (fun l2 k => if l2 = l then H k else F l2 k) V' N' (bootD E P kp) B2 j2 ∧ G0 e H := by
  obtain ⟨hq, hi⟩ := qi_in hC hl
  obtain ⟨r1, r2, r3, r4, r5, r6, r7, r8⟩ := hC.reg hq
  have hj := h.mv _ hq
  obtain ⟨B'', j'', q1, q2⟩ := k.boot P kp hP
  have hr : RgC (regC C (qL C l)) (bootD E P kp) B'' j'' (fun i k => if i = iL C l then cntZ (bankR (regC C (qL C l))) B'' (bootD E P kp) ((slotN (regC C (qL C l)).l j'' (iL C l) : Nat) : Int) k else Gf (qL C l) i k) := ⟨q2.ti, q2.reg, fun i x hil hx => by
    by_cases c : i = iL C l
    · rw [if_pos c, c]
    · rw [if_neg c]
      exact q2.wd i x hil hx c⟩
  have hgot := q2.got
  obtain ⟨H, hH⟩ : ∃ H : Nat → Nat, H = cntZ (bankR (regC C (qL C l))) B'' (bootD E P kp) ((slotN (regC C (qL C l)).l j'' (iL C l) : Nat) : Int) := ⟨_, rfl⟩
  rw [← hH] at hr hgot
  refine ⟨H, _, _, _, ⟨boot_calm E P kp, fun hg => k.near.bad.trans (h.gd hg), ?_, ⟨_, LsC.other hC L hq (boot_calm E P kp) k.near.n k.near.bad (fun x hx => k.near.out P kp hP x hx) hr, fun l2 x hl2 hx => ?_⟩, rfl, fun q hq1 => ?_, hbd⟩, hgot⟩
  · show sizeC C ≤ (E.n : Int)
    rw [k.near.n]
    exact h.fit
  · by_cases c : qL C l2 = qL C l
    · rw [c, updN_same]
      by_cases d : iL C l2 = iL C l
      · rw [if_pos d, if_pos (qi_inj hC hl2 hl c d)]
      · rw [if_neg d, if_neg (fun e => d (by rw [e])), ← c]
        exact hGF l2 x hl2 hx
    · rw [updN_other _ _ c, if_neg (fun e => c (by rw [e]))]
      exact hGF l2 x hl2 hx
  · by_cases c : q = qL C l
    · subst c
      rw [updN_same]
      omega
    · rw [updN_other _ _ c]
      have := h.mv _ hq1
      omega
end
/-- A list at work: g: no line is bad; cm: the power lasts. -/
structure FLx (C : CfgZ) (A : FlA) (a : DevA) (g cm : Bool) (F : Nat → Nat → Nat) (V : FlV) (N : Nat) (w : World) : Prop where
  ok : OkC C
  st : ∃ (D : DevS) (B : Nat → BkS) (j c : Nat → Nat), FlD C g F V N (bare D) B j ∧ Live D ∧ (cm = true → Calm D) ∧ FlIs w A a C B (64 + N / 20) j c ∧ DevIs w a D
/-- A list whose device lost its power: what a Boot leaves. -/
def FLo (C : CfgZ) (a : DevA) (g : Bool) (P : (Nat → Nat → Nat) → Prop) (N : Nat) (w : World) : Prop :=
  ∃ E : DevS, DevIs w a E ∧ Bd E N ∧ ∀ L kp, IsPend E L → ∃ (F' : Nat → Nat → Nat) (V' : FlV) (B' : Nat → BkS) (j' : Nat → Nat), FlD C g F' V' (N + 1) (bootD E L kp) B' j' ∧ P F'
/-- What comes of a write. -/
def FxP (C : CfgZ) (A : FlA) (a : DevA) (g cm : Bool) (F F' : Nat → Nat → Nat) (P : (Nat → Nat → Nat) → Prop) (N : Nat) (x : Int) (w : World) : Prop :=
  (x = 0 ∧ ∃ V', FLx C A a g cm F' V' N w) ∨ (x = 10 ∧ g = false ∧ ∃ V', FLx C A a g cm F V' N w) ∨ (x = 6 ∧ cm = false ∧ FLo C a g P N w)
section
variable {w w' : World} {A : FlA} {a : DevA} {C : CfgZ} {g cm : Bool} {F F' : Nat → Nat → Nat} {V : FlV} {N : Nat}
theorem FLo.imp {P Q : (Nat → Nat → Nat) → Prop} (h : FLo C a g P N w) (hPQ : ∀ F, P F → Q F) : FLo C a g Q N w := by
  obtain ⟨E, d, b, k⟩ := h
  exact ⟨E, d, b, fun L kp hL => by obtain ⟨F', V', B', j', f, p⟩ := k L kp hL; exact ⟨F', V', B', j', f, hPQ _ p⟩⟩
theorem FLo.more {P : (Nat → Nat → Nat) → Prop} {N' : Nat} (h : FLo C a g P N w) (hN : N ≤ N') : FLo C a g P N' w := by
  obtain ⟨E, d, b, k⟩ := h
  exact ⟨E, d, b.mono hN, fun L kp hL => by obtain ⟨F', V', B', j', f, p⟩ := k L kp hL; exact ⟨F', V', B', j', ⟨f.calm, f.gd, f.fit, f.ls, f.vs, fun q hq => Nat.le_trans (f.mv q hq) (by omega), f.bd.mono (by omega)⟩, p⟩⟩
theorem FLx.gr {bs : List Nat} (h : FLx C A a g cm F V N w) (k : Gr bs w w') (hn : ∀ x ∈ A.all (cR C) ++ a.all, x ∉ bs) : FLx C A a g cm F V N w' := by
  obtain ⟨ok, D, B, j, c, h1, lv, hc, h2, h3⟩ := h
  exact ⟨ok, D, B, j, c, h1, lv, hc, h2.gr k (fun x hx => hn x (by simp [hx])), h3.gr k (fun x hx => hn x (by simp [hx]))⟩
theorem FLx.gr0 (h : FLx C A a g cm F V N w) (k : Gr [] w w') : FLx C A a g cm F V N w' := h.gr k (by simp)
theorem FLx.lt (h : FLx C A a g cm F V N w) : ∀ x ∈ A.all (cR C) ++ a.all, x < w.heap.size := by
  obtain ⟨ok, D, B, j, c, h1, lv, hc, h2, h3⟩ := h
  intro x hx
  rcases List.mem_append.1 hx with hx | hx
  · exact h2.lt x hx
  · exact h3.lt x hx
theorem FLx.congr (h : FLx C A a g cm F V N w) (hF : ∀ l k, l < cR C * cL C → k < 8 → F l k = F' l k) : FLx C A a g cm F' V N w := by
  obtain ⟨ok, D, B, j, c, h1, r⟩ := h
  exact ⟨ok, D, B, j, c, h1.congr hF, r⟩
theorem FLx.more {N' : Nat} (h : FLx C A a g cm F V N w) (hN : N ≤ N') : FLx C A a g cm F V N' w := by
  obtain ⟨ok, D, B, j, c, h1, lv, hc, h2, h3⟩ := h
  exact ⟨ok, D, B, j, c, ⟨h1.calm, h1.gd, h1.fit, h1.ls, h1.vs, fun q hq => Nat.le_trans (h1.mv q hq) hN, h1.bd.mono hN⟩, lv, hc, h2.moreN (by omega), h3⟩
theorem FLx.of (h : FL C A a g F V N w) : FLx C A a g true F V N w := by
  obtain ⟨ok, D, B, j, c, h1, h2, h3⟩ := h
  exact ⟨ok, D, B, j, c, by rw [calm_bare h1.calm]; exact h1, h1.calm.live, fun _ => h1.calm, h2, h3⟩
theorem FLx.fl (h : FLx C A a g true F V N w) : FL C A a g F V N w := by
  obtain ⟨ok, D, B, j, c, h1, lv, hc, h2, h3⟩ := h
  exact ⟨ok, D, B, j, c, by rw [calm_bare (hc rfl)] at h1; exact h1, h2, h3⟩
/-- A fuse is set. -/
theorem FLx.fuse (h : FL C A a g F V N w) (z : Int) (hz : z ≤ 9223372036854775807) :
    Calls Tryz.prog 28 #[.pointer (some ⟨a.bd, 0, none⟩), .int .i64 z] w fun e w' => e = .returned (.tuple #[]) ∧ FLx C A a g false F V N w' ∧ Gr a.all w w' := by
  obtain ⟨ok, D, B, j, c, h1, h2, h3⟩ := h
  refine (fuse_any a D z hz w h3).mono ?_
  rintro e w2 ⟨rfl, d2, g2⟩
  refine ⟨rfl, ⟨ok, { D with fuse := mx z }, B, j, c, ?_, ⟨h1.calm.off, h1.calm.buf⟩, fun e => absurd e (by decide), h2.gr g2 (fun x hx e => ?_), d2⟩, g2.mono (fun b hb => by simp at hb; subst hb; simp [DevA.all])⟩
  · have : bare { D with fuse := mx z } = bare D := rfl
    rw [this, calm_bare h1.calm]
    exact h1
  have hm : x ∈ a.all := by rw [List.mem_singleton.1 e]; simp [DevA.all]
  unfold FlA.all at hx
  rcases List.mem_append.1 hx with hx | hx
  · obtain ⟨n1, n2, n3⟩ := h2.na
    simp at hx
    rcases hx with e | e | e
    · exact n1 (e ▸ hm)
    · exact n2 (e ▸ hm)
    · exact n3 (e ▸ hm)
  · obtain ⟨q, hq, hx⟩ := List.mem_flatMap.1 hx
    have R := h2.rg q (List.mem_range.1 hq)
    unfold FlA.reg at hx
    rcases List.mem_cons.1 hx with e | e
    · exact R.ka (e ▸ hm)
    · exact R.bk.sep _ e hm
theorem FLx.size (h : FLx C A a g cm F V N w) (l : Nat) (hl : l < cR C * cL C) : (lnF F l).size = 64 ∧ ∀ k, k < 8 → wdL (lnF F l).data.toList k = F l k := by
  obtain ⟨ok, D, B, j, c, h1, lv, hc, h2, h3⟩ := h
  exact (h1.read ok h3.ok.medB hl).2
theorem FLx.read (h : FLx C A a g cm F V N w) (l : Nat) (hl : l < cR C * cL C) :
    Calls Tryz.prog 66 #[.pointer (some ⟨A.fb, 0, none⟩), .int .i64 (l : Int)] w fun e w' => e = .returned (.tuple #[.string (lnF F l), .int .i64 0]) ∧ Gr [] w w' := by
  obtain ⟨ok, D, B, j, c, h1, lv, hc, h2, h3⟩ := h
  have hr := (h1.read ok h3.ok.medB hl).1
  rw [readR_bare lv] at hr
  have := fread_in l h2 hl h3 h1.fit
  rw [hr] at this
  exact this
theorem FLx.region (h : FLx C A a g cm F V N w) (l : Nat) (hl : l < cR C * cL C) : Calls Tryz.prog 128 #[.pointer (some ⟨A.fb, 0, none⟩), .int .i64 (l : Int)] w fun e w' => e = .returned (.int .i64 ((qL C l : Nat) : Int)) ∧ Gr [] w w' := by
  obtain ⟨ok, D, B, j, c, h1, lv, hc, h2, h3⟩ := h
  exact fregion_in l h2 hl
theorem FLx.moves (h : FLx C A a g cm F V N w) (q : Nat) (hq : q < cR C) : Calls Tryz.prog 213 #[.pointer (some ⟨A.fb, 0, none⟩), .int .i64 (q : Int)] w fun e w' => e = .returned (.int .u32 (V.J q : Int)) ∧ Gr [] w w' := by
  obtain ⟨ok, D, B, j, c, h1, lv, hc, h2, h3⟩ := h
  have := fmoves_in q h2 hq
  rw [h1.vs]
  exact this
/-- A line's write, whatever comes of it. -/
theorem FLx.put (h : FLx C A a g cm F V N w) (hN : N < 490000000) (l : Nat) (hl : l < cR C * cL C) (s : ByteArray) (hs : s.size = 64) :
    Calls Tryz.prog 60 #[.pointer (some ⟨A.fb, 0, none⟩), .int .i64 (l : Int), .string s] w fun e w' => ∃ x : Int, e = .returned (.int .i64 x) ∧ FxP C A a g cm F (fun l2 k => if l2 = l then wdL s.data.toList k else F l2 k) (fun F' => ∃ H, (F' = fun l2 k => if l2 = l then H k else F l2 k) ∧ Mix2 (F l) (wdL s.data.toList) H) (N + 4200) x w' ∧ Gr (A.all (cR C) ++ a.all) w w' := by
  obtain ⟨ok, D, B, j, c, h1, lv, hc, h2, h3⟩ := h
  obtain ⟨Gf, L, hF⟩ := h1.ls
  obtain ⟨hq, hi⟩ := qi_in ok hl
  obtain ⟨r1, r2, r3, r4, r5, r6, r7, r8⟩ := ok.reg hq
  have hj := h1.mv _ hq
  have hrg : RgC (regC C (qL C l)) (bare D) (B (qL C l)) (j (qL C l)) (Gf (qL C l)) := L.rg _ hq
  have hmed := h3.ok.medB
  have ho := reg_line r1 lv hmed hrg (by omega) (by rw [r4]; exact hi) hs (c (qL C l))
  have hu : cm = true → Calm (regZ (regC C (qL C l)) (iL C l) (fun z => writeS (bankR (regC C (qL C l))) z s) D (B (qL C l)) (j (qL C l)) (c (qL C l))).2.1 ∧ (regZ (regC C (qL C l)) (iL C l) (fun z => writeS (bankR (regC C (qL C l))) z s) D (B (qL C l)) (j (qL C l)) (c (qL C l))).1 ≠ 6 := fun e => by
    have hrg2 := hrg
    rw [calm_bare (hc e)] at hrg2
    obtain ⟨u1, u2, u3⟩ := reg_used (f := fun z => writeS (bankR (regC C (qL C l))) z s) r1 (hc e) hmed hrg2 (by omega) (show iL C l < (regC C (qL C l)).l by rw [r4]; exact hi) (c (qL C l)) (fun D B j hc h => line_used r1 (by rw [r4]; exact hi) hs D B j hc h)
    exact ⟨u1, by omega⟩
  have hg : g = true → (regZ (regC C (qL C l)) (iL C l) (fun z => writeS (bankR (regC C (qL C l))) z s) D (B (qL C l)) (j (qL C l)) (c (qL C l))).1 ≠ 10 := fun e => by
    have := regline_good r1 lv (h1.gd e) hmed hrg (by omega) (by rw [r4]; exact hi) hs (c (qL C l))
    omega
  refine (fwrite_in l s h2 hl h3 h1.bd (by omega) (by omega) hs (by omega) h1.fit (fun hc => ?_)).mono ?_
  · obtain ⟨m1, m2, m3, _⟩ := move_last r1 lv hmed hrg (by omega)
    exact ⟨m1, m2, m3⟩
  · rintro e w2 ⟨rfl, d2, b2, f2, g2⟩
    obtain ⟨⟨x, E, B', j', c'⟩, hX⟩ : ∃ X, regZ (regC C (qL C l)) (iL C l) (fun z => writeS (bankR (regC C (qL C l))) z s) D (B (qL C l)) (j (qL C l)) (c (qL C l)) = X := ⟨_, rfl⟩
    rw [hX] at ho hu hg d2 b2 f2 ⊢
    simp only at ho hu hg d2 b2 f2 ⊢
    refine ⟨x, rfl, ?_, g2⟩
    rcases ho.er with hx | hx | hx
    · obtain ⟨n1, n2⟩ := FlD.next2 ok h1 hl b2 (by omega) L hF ho (by omega) (H := wdL s.data.toList) (fun X hX => hX.1 hx)
      exact .inl ⟨hx, _, ok, E, _, _, _, n1, n2, fun e => (hu e).1, f2.moreN (by omega), d2⟩
    · obtain ⟨n1, n2⟩ := FlD.next2 ok h1 hl b2 (by omega) L hF ho (by omega) (H := F l) (fun X hX k hk => by rw [hX.2.1 hx k hk]; exact hF l k hl hk)
      refine .inr (.inl ⟨hx, ?_, _, ok, E, _, _, _, n1.congr (fun l2 k _ _ => ?_), n2, fun e => (hu e).1, f2.moreN (by omega), d2⟩)
      · cases hgg : g with
        | false => rfl
        | true => exact absurd hx (hg hgg)
      · split
        · rename_i e; rw [e]
        · rfl
    · refine .inr (.inr ⟨hx, ?_, E, d2, b2, fun P kp hP => ?_⟩)
      · cases hcc : cm with
        | false => rfl
        | true => exact absurd hx (hu hcc).2
      · obtain ⟨H, V', B2, j2, q1, q2⟩ := FlD.torn2 ok h1 hl (N' := N + 4200 + 1) (by omega) L hF ho (kp := kp) hP (boot_bdX b2)
        exact ⟨_, V', B2, j2, q1, H, rfl, fun k hk => by rw [← hF l k hl hk]; exact q2.2.2 k hk⟩
/-- A word's write, whatever comes of it. -/
theorem FLx.word (h : FLx C A a g cm F V N w) (hN : N < 490000000) (l k v : Nat) (hl : l < cR C * cL C) (hk : k < 8) (hv : v < 18446744073709551616) :
    Calls Tryz.prog 64 #[.pointer (some ⟨A.fb, 0, none⟩), .int .i64 (l : Int), .int .i64 (k : Int), .int .u64 (v : Int)] w fun e w' => ∃ x : Int, e = .returned (.int .i64 x) ∧ FxP C A a g cm F (fun l2 m => if l2 = l then updF (F l) k v m else F l2 m) (fun F' => ∃ H, (F' = fun l2 k => if l2 = l then H k else F l2 k) ∧ One2 (F l) (updF (F l) k v) H) (N + 4200) x w' ∧ Gr (A.all (cR C) ++ a.all) w w' := by
  obtain ⟨ok, D, B, j, c, h1, lv, hc, h2, h3⟩ := h
  obtain ⟨Gf, L, hF⟩ := h1.ls
  obtain ⟨hq, hi⟩ := qi_in ok hl
  obtain ⟨r1, r2, r3, r4, r5, r6, r7, r8⟩ := ok.reg hq
  have hj := h1.mv _ hq
  have hrg : RgC (regC C (qL C l)) (bare D) (B (qL C l)) (j (qL C l)) (Gf (qL C l)) := L.rg _ hq
  have hmed := h3.ok.medB
  have hmed2 : ∀ x, (bare D).med x < 18446744073709551616 := hmed
  have hFb : ∀ k, k < 8 → Gf (qL C l) (iL C l) k < 18446744073709551616 := fun k hk => by rw [hF l k hl hk]; exact h1.word ok hmed2 hl hk
  have ho := reg_word r1 lv hmed hrg (by omega) (by rw [r4]; exact hi) hk hv hFb (c (qL C l))
  have hu : cm = true → Calm (regZ (regC C (qL C l)) (iL C l) (fun z => writeWordS (bankR (regC C (qL C l))) z (k : Int) v) D (B (qL C l)) (j (qL C l)) (c (qL C l))).2.1 ∧ (regZ (regC C (qL C l)) (iL C l) (fun z => writeWordS (bankR (regC C (qL C l))) z (k : Int) v) D (B (qL C l)) (j (qL C l)) (c (qL C l))).1 ≠ 6 := fun e => by
    have hrg2 := hrg
    rw [calm_bare (hc e)] at hrg2
    obtain ⟨u1, u2, u3⟩ := reg_used (f := fun z => writeWordS (bankR (regC C (qL C l))) z (k : Int) v) r1 (hc e) hmed hrg2 (by omega) (show iL C l < (regC C (qL C l)).l by rw [r4]; exact hi) (c (qL C l)) (fun D B j hc h => word_used r1 (by rw [r4]; exact hi) hk hv hFb D B j hc h)
    exact ⟨u1, by omega⟩
  have hg : g = true → (regZ (regC C (qL C l)) (iL C l) (fun z => writeWordS (bankR (regC C (qL C l))) z (k : Int) v) D (B (qL C l)) (j (qL C l)) (c (qL C l))).1 ≠ 10 := fun e => by
    have := regword_good r1 lv (h1.gd e) hmed hrg (by omega) (by rw [r4]; exact hi) hk hv hFb (c (qL C l))
    omega
  refine (fww_in l k v h2 hl h3 h1.bd (by omega) (by omega) hk hv (by omega) h1.fit (fun hc => ?_)).mono ?_
  · obtain ⟨m1, m2, m3, _⟩ := move_last r1 lv hmed hrg (by omega)
    exact ⟨m1, m2, m3⟩
  · rintro e w2 ⟨rfl, d2, b2, f2, g2⟩
    obtain ⟨⟨x, E, B', j', c'⟩, hX⟩ : ∃ X, regZ (regC C (qL C l)) (iL C l) (fun z => writeWordS (bankR (regC C (qL C l))) z (k : Int) v) D (B (qL C l)) (j (qL C l)) (c (qL C l)) = X := ⟨_, rfl⟩
    rw [hX] at ho hu hg d2 b2 f2 ⊢
    simp only at ho hu hg d2 b2 f2 ⊢
    refine ⟨x, rfl, ?_, g2⟩
    rcases ho.er with hx | hx | hx
    · obtain ⟨n1, n2⟩ := FlD.next2 ok h1 hl b2 (by omega) L hF ho (by omega) (H := updF (F l) k v) (fun X hX m hm => by rw [hX.1 hx m hm]; exact updF_congr (hF l m hl hm))
      exact .inl ⟨hx, _, ok, E, _, _, _, n1, n2, fun e => (hu e).1, f2.moreN (by omega), d2⟩
    · obtain ⟨n1, n2⟩ := FlD.next2 ok h1 hl b2 (by omega) L hF ho (by omega) (H := F l) (fun X hX k hk => by rw [hX.2.1 hx k hk]; exact hF l k hl hk)
      refine .inr (.inl ⟨hx, ?_, _, ok, E, _, _, _, n1.congr (fun l2 k _ _ => ?_), n2, fun e => (hu e).1, f2.moreN (by omega), d2⟩)
      · cases hgg : g with
        | false => rfl
        | true => exact absurd hx (hg hgg)
      · split
        · rename_i e; rw [e]
        · rfl
    · refine .inr (.inr ⟨hx, ?_, E, d2, b2, fun P kp hP => ?_⟩)
      · cases hcc : cm with
        | false => rfl
        | true => exact absurd hx (hu hcc).2
      · obtain ⟨H, V', B2, j2, q1, q2⟩ := FlD.torn2 ok h1 hl (N' := N + 4200 + 1) (by omega) L hF ho (kp := kp) hP (boot_bdX b2)
        refine ⟨_, V', B2, j2, q1, H, rfl, ?_⟩
        rcases q2.2.2 with r | r
        · exact .inl fun m hm => (r m hm).trans (hF l m hl hm)
        · exact .inr fun m hm => (r m hm).trans (updF_congr (hF l m hl hm))
end
end Go.Proofs.YtefmbchebobceaaGreat

/-
  Layer 10: pages at work, whatever comes: find, has, Len, Read, spot.
-/
namespace Go.Proofs.YtefmbchebobceaaGreat
open Go.RowKit
set_option linter.unusedVariables false

structure HgIs (w : World) (X : HtA) (A : FlA) (a : DevA) (C : CfgZ) (gd cm : Bool) (F : Nat → Nat → Nat) (V : FlV) (N lim : Nat) (S : HtS) : Prop where
  fl : FLx C A a gd cm F V N w
  pos : 0 < pgC C
  head : Holds w X.pb (htRow X A C lim) 110
  pls : ∃ cur : Array Value, Holds w X.lb cur 114 ∧ ∀ g, g < pgC C → cur[g * 2]? = some (.int .i64 (S.fr g : Int)) ∧ cur[g * 2 + 1]? = some (.int .u32 (S.mv g : Int))
  hts : ∃ cur : Array Value, Holds w X.hb cur 3 ∧ ∀ g, g < pgC C → cur[g]? = some (.int .i64 (S.ht g : Int))
  tks : ∃ cur : Array Value, Holds w X.tb cur 4 ∧ ∀ q, q < frmC C → cur[q]? = some (.bool (S.tk q))
  na : ∀ x ∈ X.all, x ∉ A.all (cR C) ++ a.all
  nd : X.pb ≠ X.lb ∧ X.pb ≠ X.hb ∧ X.pb ≠ X.tb ∧ X.lb ≠ X.hb ∧ X.lb ≠ X.tb ∧ X.hb ≠ X.tb
  cap : pgC C ≤ X.cl
  inv : HtP C S
  tab : ∀ g, g < pgC C → F (g / 8) (g % 8) = guardN (keyT S g)
  mvb : ∀ g, g < pgC C → S.mv g ≤ N
  htb : ∀ g, g < pgC C → S.ht g ≤ lim
section
variable {w w' : World} {X : HtA} {A : FlA} {a : DevA} {C : CfgZ} {F : Nat → Nat → Nat} {V : FlV} {gd cm : Bool} {N lim : Nat} {S : HtS}
theorem HgIs.gr {bs : List Nat} (h : HgIs w X A a C gd cm F V N lim S) (k : Gr bs w w') (h1 : ∀ x ∈ X.all, x ∉ bs) (h2 : ∀ x ∈ A.all (cR C) ++ a.all, x ∉ bs) : HgIs w' X A a C gd cm F V N lim S := by
  obtain ⟨c1, q1, q2⟩ := h.pls
  obtain ⟨c2, q3, q4⟩ := h.hts
  obtain ⟨c3, q5, q6⟩ := h.tks
  exact ⟨h.fl.gr k h2, h.pos, h.head.gr k (h1 _ (by simp [HtA.all])), ⟨c1, q1.gr k (h1 _ (by simp [HtA.all])), q2⟩, ⟨c2, q3.gr k (h1 _ (by simp [HtA.all])), q4⟩, ⟨c3, q5.gr k (h1 _ (by simp [HtA.all])), q6⟩, h.na, h.nd, h.cap, h.inv, h.tab, h.mvb, h.htb⟩
theorem HgIs.gr0 (h : HgIs w X A a C gd cm F V N lim S) (k : Gr [] w w') : HgIs w' X A a C gd cm F V N lim S := h.gr k (by simp) (by simp)
theorem HgIs.lt (h : HgIs w X A a C gd cm F V N lim S) : ∀ x ∈ X.all ++ (A.all (cR C) ++ a.all), x < w.heap.size := by
  intro x hx
  obtain ⟨c1, q1, q2⟩ := h.pls
  obtain ⟨c2, q3, q4⟩ := h.hts
  obtain ⟨c3, q5, q6⟩ := h.tks
  rcases List.mem_append.1 hx with hx | hx
  · simp only [HtA.all, List.mem_cons, List.not_mem_nil, or_false] at hx
    rcases hx with rfl | rfl | rfl | rfl
    · exact h.head.lt
    · exact q1.lt
    · exact q3.lt
    · exact q5.lt
  · exact h.fl.lt x hx
theorem HgIs.plAt (h : HgIs w X A a C gd cm F V N lim S) {g : Nat} (hg : g < pgC C) : w.cell? ⟨X.lb, g * 2, none⟩ = some (.int .i64 (S.fr g : Int)) ∧ w.cell? ⟨X.lb, g * 2 + 1, none⟩ = some (.int .u32 (S.mv g : Int)) ∧ (∀ o, w.frozen? ⟨X.lb, o, none⟩ = false) := by
  obtain ⟨c1, q1, q2⟩ := h.pls
  exact ⟨(q1.cell _).trans (q2 g hg).1, (q1.cell _).trans (q2 g hg).2, fun o => q1.frozen o⟩
theorem HgIs.htAt (h : HgIs w X A a C gd cm F V N lim S) {g : Nat} (hg : g < pgC C) : w.cell? ⟨X.hb, g, none⟩ = some (.int .i64 (S.ht g : Int)) ∧ w.frozen? ⟨X.hb, g, none⟩ = false := by
  obtain ⟨c1, q1, q2⟩ := h.hts
  exact ⟨(q1.cell _).trans (q2 g hg), q1.frozen _⟩
theorem HgIs.tkAt (h : HgIs w X A a C gd cm F V N lim S) {q : Nat} (hq : q < frmC C) : w.cell? ⟨X.tb, q, none⟩ = some (.bool (S.tk q)) ∧ w.frozen? ⟨X.tb, q, none⟩ = false := by
  obtain ⟨c1, q1, q2⟩ := h.tks
  exact ⟨(q1.cell _).trans (q2 q hq), q1.frozen _⟩
theorem HgIs.hc (h : HgIs w X A a C gd cm F V N lim S) : w.cell? ⟨X.pb, 0, none⟩ = some (.pointer (some ⟨A.fb, 0, none⟩)) ∧ w.cell? ⟨X.pb, 1, none⟩ = some (.int .i64 (pgC C : Int)) ∧ w.cell? ⟨X.pb, 2, none⟩ = some (.int .i64 (tbC C : Int)) ∧ w.cell? ⟨X.pb, 4, none⟩ = some (.int .i64 (lim : Int)) ∧ w.cell? ⟨X.pb, 5, none⟩ = some (.slice (some ⟨X.lb, 0, none⟩) (pgC C) X.cl) ∧ w.cell? ⟨X.pb, 6, none⟩ = some (.slice (some ⟨X.hb, 0, none⟩) (pgC C) (pgC C)) ∧ w.cell? ⟨X.pb, 7, none⟩ = some (.slice (some ⟨X.tb, 0, none⟩) (frmC C) (frmC C)) :=
  ⟨h.head.cell 0, h.head.cell 1, h.head.cell 2, h.head.cell 4, h.head.cell 5, h.head.cell 6, h.head.cell 7⟩
theorem glen_any (h : HgIs w X A a C gd cm F V N lim S) : Calls Tryz.prog 19 #[.pointer (some ⟨X.pb, 0, none⟩)] w fun e w' => e = .returned (.int .i64 (pgC C : Int)) ∧ w' = w := by
  have c1 := h.hc.2.1
  clear h
  go_enter Tryz.func19, Tryz.ntmps19
  go_wp2_with fail
  go_ret
  exact ⟨rfl, rfl⟩
theorem ghas_any (h : HgIs w X A a C gd cm F V N lim S) (g : Int) : Calls Tryz.prog 76 #[.pointer (some ⟨X.pb, 0, none⟩), .int .i64 g] w fun e w' => e = .returned (.bool (decide (0 ≤ g ∧ g < (pgC C : Int)))) ∧ w' = w := by
  have HL := Lib.hid (glen_any h)
  clear h
  obtain ⟨G, hG⟩ : ∃ G, G = pgC C := ⟨_, rfl⟩
  rw [← hG] at HL ⊢
  clear hG
  by_cases h0 : 0 ≤ g
  · by_cases h1 : g < (G : Int)
    · rw [decide_eq_true ⟨h0, h1⟩]
      go_enter Tryz.func76, Tryz.ntmps76
      go_wp2_with fail
      refine HL.out.mono ?_
      rintro e w2 ⟨rfl, rfl⟩
      go_wp2_with fail
      go_ret
      exact ⟨rfl, rfl⟩
    · rw [decide_eq_false (fun q => h1 q.2)]
      go_enter Tryz.func76, Tryz.ntmps76
      go_wp2_with fail
      refine HL.out.mono ?_
      rintro e w2 ⟨rfl, rfl⟩
      go_wp2_with fail
      go_ret
      exact ⟨by simp [h1] <;> omega, rfl⟩
  · rw [decide_eq_false (fun q => h0 q.1)]
    go_enter Tryz.func76, Tryz.ntmps76
    go_wp2_with fail
    go_ret
    exact ⟨rfl, rfl⟩
theorem gfind_in (h : HgIs w X A a C gd cm F V N lim S) (g k : Nat) (hg : g < pgC C) (hk : k < 8) : Calls Tryz.prog 65 #[.pointer (some ⟨X.pb, 0, none⟩), .int .i64 (g : Int), .int .i64 (k : Int)] w fun e w' => e = .returned (.tuple #[.int .i64 ((8 * S.fr g + k : Nat) : Int), .int .i64 0]) ∧ w' = w := by
  have HH := Lib.hid (ghas_any h (g : Int))
  rw [decide_eq_true (by omega)] at HH
  have c5 := h.hc.2.2.2.2.1
  obtain ⟨l0, l1, l2⟩ := h.plAt hg
  have n := pg_nums h.fl.ok h.pos
  have hf := (h.inv.lt g hg).2
  have hcap := h.cap
  clear h
  obtain ⟨f, hf0⟩ : ∃ f, f = S.fr g := ⟨_, rfl⟩
  obtain ⟨m, hm⟩ : ∃ m, m = S.mv g := ⟨_, rfl⟩
  obtain ⟨f8, hf8⟩ : ∃ x, x = 8 * f := ⟨_, rfl⟩
  obtain ⟨fk, hfk⟩ : ∃ x, x = 8 * f + k := ⟨_, rfl⟩
  obtain ⟨G, hG⟩ : ∃ G, G = pgC C := ⟨_, rfl⟩
  rw [← hf0] at l0 hf ⊢
  rw [← hm] at l1
  rw [← hfk]
  rw [← hG] at c5 hg hcap
  have w1 : IntKind.i64.wrap ((f : Int) * 8) = (f8 : Int) := by rw [show (f : Int) * 8 = (f8 : Int) by omega]; exact IntWalk.i64_in _ (by omega)
  have w2 : IntKind.i64.wrap ((f8 : Int) + (k : Int)) = (fk : Int) := by rw [show (f8 : Int) + (k : Int) = (fk : Int) by omega]; exact IntWalk.i64_in _ (by omega)
  have k1 : ¬ (k : Int) < 0 := by omega
  have k2 : ¬ (8 : Int) ≤ (k : Int) := by omega
  have k3 : decide (8 ≤ k) = false := decide_eq_false (by omega)
  have g1 : (g : Int) < (G : Int) := by omega
  have g0 : (0 : Int) ≤ (g : Int) := by omega
  clear hf0 hm hf8 hfk hG n hf
  go_enter Tryz.func65, Tryz.ntmps65
  go_wp2_with fail
  refine HH.out.mono ?_
  rintro e w2 ⟨rfl, rfl⟩
  go_wp2_with fail
  go_ret2
  exact ⟨rfl, rfl⟩
/-- A frame, and how often its region moved on. -/
theorem gspot_any (h : HgIs w X A a C gd cm F V N lim S) (q : Nat) (hq : q < frmC C) : Calls Tryz.prog 165 #[.pointer (some ⟨X.pb, 0, none⟩), .int .i64 (q : Int)] w fun e w' => e = .returned (.agg #[.int .i64 (q : Int), .int .u32 (V.J (qL C (8 * q)) : Int)]) ∧ Gr [] w w' := by
  have n := pg_nums h.fl.ok h.pos
  have hl : 8 * q < cR C * cL C := by omega
  have HR := Lib.hid (fun W (g : Gr [] w W) => (h.gr0 g).fl.region (8 * q) hl)
  have HM := Lib.hid (fun W (g : Gr [] w W) => (h.gr0 g).fl.moves (qL C (8 * q)) (qi_in h.fl.ok hl).1)
  have HC := Lib.hid (fun W (g : Gr [] w W) => (h.gr0 g).hc.1)
  obtain ⟨q8, h8⟩ : ∃ x, x = 8 * q := ⟨_, rfl⟩
  rw [← h8] at HR HM ⊢
  have w1 : IntKind.i64.wrap ((q : Int) * 8) = (q8 : Int) := by rw [show (q : Int) * 8 = (q8 : Int) by omega]; exact IntWalk.i64_in _ (by omega)
  obtain ⟨rg, hrg⟩ : ∃ x, x = qL C q8 := ⟨_, rfl⟩
  rw [← hrg] at HR HM ⊢
  obtain ⟨J, hJ⟩ : ∃ x, x = V.J rg := ⟨_, rfl⟩
  rw [← hJ] at HM ⊢
  have g0 := (Gr.refl [] w).alloc (Obj.cells #[.int .i64 0, .int .u32 0] 242)
  have hh := Holds.new w #[.int .i64 0, .int .u32 0] 242
  have H1 := Lib.hid (And.intro g0 hh)
  have c0 := HC.out _ g0
  clear h8 hrg hJ n hl g0 hh h
  go_enter Tryz.func165, Tryz.ntmps165
  go_upto_region 1 with fail
  generalize w.alloc (Obj.cells #[.int .i64 0, .int .u32 0] 242) = w1 at *
  obtain ⟨sb, hsb⟩ : ∃ x, x = w.heap.size := ⟨_, rfl⟩
  rw [← hsb] at H1 ⊢
  have HSB := Lib.hid hsb
  clear hsb
  go_wp2_with fail
  refine (HR.out _ H1.out.1).mono ?_
  rintro e w2 ⟨rfl, g2⟩
  have H2 := Lib.hid (And.intro (H1.out.1.trans g2) (H1.out.2.gr0 g2))
  clear g2 c0
  have c0 := HC.out _ H2.out.1
  go_wp2_with fail
  refine (HM.out _ H2.out.1).mono ?_
  rintro e w3 ⟨rfl, g3⟩
  have H3 := Lib.hid (And.intro (H2.out.1.trans g3) (H2.out.2.gr0 g3))
  clear g3 c0
  have s0 := H3.out.2.cell 0
  have s1 := H3.out.2.cell 1
  have f0 := H3.out.2.frozen 0
  have f1 := H3.out.2.frozen 1
  go_wp2_with fail
  refine bodyPost_ret (v := .agg #[.int .i64 (q : Int), .int .u32 (J : Int)]) (by simp [results, Tryz.results165, go_sem, *]) rfl ⟨rfl, ?_⟩
  repeat (with_reducible first | exact H3.out.1 | refine Gr.setCell ?_ (.inr (by have := HSB.out; (try dsimp only); omega)) _)
end
end Go.Proofs.YtefmbchebobceaaGreat
