/-
  PjAx: SpQ, SpAe, RgG, RgP, Frame, RgJ, RgN, RgO.
-/
import Derived.Test.YtjbhallhmnahbaaGreatPjAq
import Derived.Test.YtjbhallhmnahbaaGreatPjAs
import Derived.Test.YtjbhallhmnahbaaGreatPjAu
import Derived.Test.YtjbhallhmnahbaaGreatPjAh
import Derived.Test.YtjbhallhmnahbaaGreatRows
import Derived.WalkKit
import Derived.ProofKit
import Derived.OpenShut
import Derived.SizedLaws
import Derived.ChangeSlices
import Derived.Deep.Slices
import Derived.Deep.Grids

set_option linter.unusedVariables false

/-
  SpareCount: what a write to a worn line leaves, while lines and spares wear out.
-/
namespace Go.Proofs.YtjbhallhmnahbaaGreat
open Go.RowKit

/-- The good ones among n spares from u on. -/
def gds (f : Nat → Bool) : Nat → Nat → Nat
  | 0, _ => 0
  | n + 1, u => (if f u = true then 0 else 1) + gds f n (u + 1)
structure CI (D : DevS) (B : BkS) (f : Nat → Bool) (good i : Nat) : Prop where
  calm : Calm D
  n : D.n = 15
  bs : ∀ k, k < 6 → D.bad (9 + k) = f k
  sp0 : ∀ k, k < 6 → f k = true → ∀ x, x < 8 → D.med (8 * (9 + k) + x) = 0
  ln0 : ∀ j : Nat, i ≤ j → j < 8 → B.wh (j : Int) = none ∧ ∀ x, x < 8 → D.med (8 * (1 + j) + x) = 0
  us : B.used ≤ 6
  cn : gds f (6 - B.used) B.used = good - i
section
variable {D : DevS} {B : BkS} {f : Nat → Bool} {s : ByteArray} {i : Nat}
end
section
variable {f : Nat → Bool} {s : ByteArray} {i : Nat}
end
end Go.Proofs.YtjbhallhmnahbaaGreat

/-
  SpareTorn, pure: what is read behind Boot and Open.
-/
namespace Go.Proofs.YtjbhallhmnahbaaGreat
open Go.RowKit
set_option linter.unusedVariables false

section
variable {p : PlanZ} {D E : DevS} {B B' : BkS} {s : ByteArray} {i : Int}
theorem write_ok {l : Nat} (hc : Calm D) (hi : inP p i) (hp : placeP p B i = (l : Int)) (hl : l < D.n) (hb : D.bad l = false) (hs : s.size = 64) : ∃ E, writeS p i s D B = (0, E, B) ∧ PutS D E l (8 * l) 8 (wdL s.data.toList) := by
  obtain ⟨E, e1, e2⟩ := put_calm (l := l) hc hl hs
  refine ⟨E, ?_, e2⟩
  unfold writeS
  rw [if_neg (by simp [hs]), if_pos hi, hp, e1]
  show (if (0 : Int) ≠ 0 then _ else _) = _
  rw [if_neg (by simp)]
  show ensureS p i (l : Int) s E B = _
  unfold ensureS
  rw [took_of (by rw [e2.n]; exact hl) hs (fun k hk => by
    rw [e2.med, if_pos ⟨by omega, by omega, hb⟩]
    congr 1
    omega)]
  rfl
theorem Kept.boot {l0 : Nat} {G : (Nat → Nat) → Prop} {L : List Nat} (kp : Nat → Bool) (h : Kept p i l0 D B (bare E) B' G) (hok : okZ p = true) (hd : Live E) (hL : IsPend E L) : Kept p i l0 D B (bootD E L kp) B' G := by
  have hm : (bootD E L kp).med = (bare E).med := boot_live kp hd hL
  refine ⟨h.ti.congr hok (boot_calm E L kp) rfl rfl hm, h.n, h.bad, fun x h1 h2 => by rw [hm]; exact h.fr x h1 h2, h.wh, ?_⟩
  rw [hm]
  exact h.got
/-- What a write leaves behind Boot. -/
theorem WrL.boot {l0 : Nat} {C : (Nat → Nat) → Prop} {e : Int} {L : List Nat} (kp : Nat → Bool) (h : WrL p i l0 s D B C e E B') (hok : okZ p = true) (hC : ∀ F, One2 (fun k => D.med (8 * l0 + k)) (wdL s.data.toList) F → C F) (hL : IsPend E L) :
    (e = 0 ∨ e = 10 ∨ e = 6) ∧ ∃ B'', Kept p i l0 D B (bootD E L kp) B'' (fun F => (e = 0 → IsW (wdL s.data.toList) F) ∧ (e = 10 → IsW (fun k => D.med (8 * l0 + k)) F) ∧ C F) := by
  unfold WrL at h
  rcases h with ⟨rfl, a2, a3⟩ | ⟨rfl, a2, a3⟩ | ⟨rfl, a2, a3, a4, a5⟩
  · exact ⟨.inl rfl, B', (a3.boot kp hok a2 hL).imp fun F hF => ⟨fun _ => hF, fun e => by omega, hC F (.inr hF)⟩⟩
  · exact ⟨.inr (.inl rfl), B', (a3.boot kp hok a2 hL).imp fun F hF => ⟨fun e => by omega, fun _ => hF, hC F (.inl hF)⟩⟩
  · obtain ⟨B3, z⟩ := a5 L kp hL
    exact ⟨.inr (.inr rfl), B3, z.imp fun F hF => ⟨fun e => by omega, fun e => by omega, hF⟩⟩
theorem line_words {l : Nat} (hc : Calm D) (hm : ∀ x, D.med x < 18446744073709551616) (k : Nat) (hk : k < 8) : wdL (⟨(getT D l).toArray⟩ : ByteArray).data.toList k = D.med (8 * l + k) := by
  have e : lineF D l = fun j => D.med (8 * l + j) := lineF_live ⟨hc.off, hc.buf⟩ l
  rw [lineF_text, e, wd_textU (fun j => hm _) k hk]
theorem line_size (D : DevS) (l : Nat) : (⟨(getT D l).toArray⟩ : ByteArray).size = 64 := by
  rw [lineF_text]; exact textU_size _
end
def pT : PlanZ := ⟨1, 3, 5⟩
def B0 : BkS := ⟨0, fun _ => none⟩
/-- The device ahead of the write. -/
structure TS (D : DevS) (A C : ByteArray) : Prop where
  live : Live D
  n : D.n = 12
  ti : TI pT (bare D) B0
  l0 : ∀ k, k < 8 → D.med (16 + k) = wdL A.data.toList k
  l1 : ∀ k, k < 8 → D.med (24 + k) = wdL C.data.toList k
  l2 : ∀ k, k < 8 → D.med (32 + k) = 0
section
variable {D E : DevS} {B' : BkS} {S A T : ByteArray}
end
end Go.Proofs.YtjbhallhmnahbaaGreat

/-
  Layer 7, pure: a region on a device that is on and unbroken.
-/
namespace Go.Proofs.YtjbhallhmnahbaaGreat
open Go.RowKit
set_option linter.unusedVariables false

/-- The device's line of the bank's line z. -/
def lnN (P : PlanR) (z : Int) : Nat := (P.a + tabZ (bankR P) + z).toNat
structure GdR (P : PlanR) (D : DevS) (j : Nat) : Prop where
  calm : Calm D
  bad : D.bad = fun _ => false
  fit : (bankR P).a + sizeZ (bankR P) ≤ (D.n : Int)
  mb : ∀ x, D.med x < 18446744073709551616
  reg : D.med (8 * lnN P ((P.l : Int) + 1)) = pkN P j
  tab : ∀ k : Nat, (k : Int) < P.s → D.med (8 * P.a.toNat + k) = 0
section
variable {P : PlanR} {D : DevS} {j : Nat}
theorem lnN_val (hP : OkR P) {z : Int} (hz : 0 ≤ z) : ((lnN P z : Nat) : Int) = P.a + tabZ (bankR P) + z := by
  obtain ⟨h1, h2, h3, h4, h5, h6⟩ := (okZ_iff (bankR P)).1 hP.ok
  have h1' : 0 ≤ P.a := h1
  have ht : 0 ≤ tabZ (bankR P) := by unfold tabZ; omega
  unfold lnN
  omega
theorem place0 (hP : OkR P) {z : Int} (hz : 0 ≤ z) : placeP (bankR P) B0 z = ((lnN P z : Nat) : Int) := by
  rw [lnN_val hP hz]
  rfl
theorem rg_nums (hP : OkR P) : 0 ≤ P.a ∧ 0 ≤ P.s ∧ P.s ≤ 64 ∧ 0 ≤ tabZ (bankR P) ∧ P.s ≤ 8 * tabZ (bankR P) ∧ sizeZ (bankR P) = tabZ (bankR P) + ((P.l : Int) + 2) + P.s := by
  obtain ⟨h1, h2, h3, h4, h5, h6⟩ := (okZ_iff (bankR P)).1 hP.ok
  refine ⟨h1, h5, h6, ?_, ?_, ?_⟩
  · unfold tabZ; omega
  · have : (bankR P).s = P.s := rfl
    unfold tabZ; omega
  · unfold sizeZ; rw [if_pos hP.ok]; rfl
/-- A whole line is written. -/
theorem gd_line (hP : OkR P) (G : GdR P D j) {z : Int} (h0 : 0 ≤ z) (h1 : z ≤ (P.l : Int)) {s : ByteArray} (hs : s.size = 64) :
    ∃ E, writeS (bankR P) z s D B0 = (0, E, B0) ∧ GdR P E j ∧ E.n = D.n ∧ (∀ k, k < 8 → E.med (8 * lnN P z + k) = wdL s.data.toList k) ∧ ∀ x, (x < 8 * lnN P z ∨ 8 * lnN P z + 8 ≤ x) → E.med x = D.med x := by
  obtain ⟨q1, q2, q3, q4, q5, q6⟩ := rg_nums hP
  have hf := G.fit
  have hln := lnN_val hP h0
  have hrl := lnN_val hP (z := (P.l : Int) + 1) (by omega)
  have ha : (bankR P).a = P.a := rfl
  obtain ⟨E, e1, e2⟩ := write_ok (p := bankR P) (B := B0) (i := z) (l := lnN P z) (s := s) G.calm ⟨h0, by show z < (P.l : Int) + 2; omega⟩ (place0 hP h0) (by omega) (by rw [G.bad]) hs
  have hm : ∀ x, (x < 8 * lnN P z ∨ 8 * lnN P z + 8 ≤ x) → E.med x = D.med x := fun x hx => by rw [e2.med, if_neg (by omega)]
  refine ⟨E, e1, ⟨e2.calm, by rw [e2.bad, G.bad], by rw [e2.n]; exact G.fit, fun x => ?_, by rw [hm _ (by omega)]; exact G.reg, fun k hk => by rw [hm _ (by omega)]; exact G.tab k hk⟩, e2.n, fun k hk => ?_, hm⟩
  · rw [e2.med]
    split
    · exact wdL_lt _ _
    · exact G.mb x
  · rw [e2.med, if_pos ⟨by omega, by omega, by rw [G.bad]⟩]
    congr 1
    omega
/-- A word is written. -/
theorem gd_word (hP : OkR P) (G : GdR P D j) {z : Int} (h0 : 0 ≤ z) (h1 : z ≤ (P.l : Int) + 1) {k v : Nat} (hk : k < 8) (hv : v < 18446744073709551616) :
    ∃ E, writeWordS (bankR P) z (k : Int) v D B0 = (0, E, B0) ∧ E.n = D.n ∧ Calm E ∧ E.bad = (fun _ => false) ∧ (∀ x, E.med x < 18446744073709551616) ∧ E.med (8 * lnN P z + k) = v ∧ ∀ x, x ≠ 8 * lnN P z + k → E.med x = D.med x := by
  obtain ⟨q1, q2, q3, q4, q5, q6⟩ := rg_nums hP
  have hf := G.fit
  have hln := lnN_val hP h0
  have ha : (bankR P).a = P.a := rfl
  have hin : inP (bankR P) z := ⟨h0, by show z < (P.l : Int) + 2; omega⟩
  obtain ⟨E, e1, e2⟩ := putword_calm (l := lnN P z) (k := k) (v := v) G.calm (by omega) hk
  have hm : ∀ x, x ≠ 8 * lnN P z + k → E.med x = D.med x := fun x hx => by rw [e2.med, if_neg (by omega)]
  have hv2 : E.med (8 * lnN P z + k) = v := by rw [e2.med, if_pos ⟨by omega, by omega, by rw [G.bad]⟩]
  refine ⟨E, ?_, e2.n, e2.calm, by rw [e2.bad, G.bad], fun x => ?_, hv2, hm⟩
  · have hlv : lineF D (lnN P z) = fun j => D.med (8 * lnN P z + j) := lineF_live ⟨G.calm.off, G.calm.buf⟩ _
    unfold writeWordS
    rw [if_neg (by omega), if_pos hin, G.calm.off, place0 hP h0, Int.toNat_natCast, Int.toNat_natCast, e1]
    simp only [ne_eq, not_true_eq_false, if_false, Bool.false_eq_true]
    unfold ensureS
    rw [took_of (by rw [e2.n]; omega) (textU_size _) (fun i hi => by
      rw [wd_textU (fun i => by unfold updF; split; exact hv; rw [hlv]; exact G.mb _) i hi, hlv]
      unfold updF
      split
      · rename_i c; rw [c]; exact hv2
      · rename_i c; exact hm _ (by omega))]
    rfl
  · by_cases c : x = 8 * lnN P z + k
    · rw [c, hv2]; exact hv
    · rw [hm x c]; exact G.mb x
theorem from_in (hP : OkR P) (j : Nat) : 0 ≤ fromI P j ∧ fromI P j ≤ (P.l : Int) ∧ 0 ≤ toI P j ∧ toI P j ≤ (P.l : Int) ∧ fromI P j ≠ toI P j := by
  have h := at_right P.l j hP.l1 hP.l2
  have h1 := hP.l1
  unfold rightS at h
  unfold fromI toI
  split <;> omega
/-- A move. -/
theorem gd_move (hP : OkR P) (G : GdR P D j) (hj : j < 4294967295) :
    ∃ D1 D2, (readR D (bankR P) B0 (fromI P j)).2 = 0 ∧ writeS (bankR P) (toI P j) (readR D (bankR P) B0 (fromI P j)).1 D B0 = (0, D1, B0) ∧ writeWordS (bankR P) ((P.l : Int) + 1) 0 (pkN P (j + 1)) D1 B0 = (0, D2, B0) ∧ D1.n = D.n ∧ D2.n = D.n ∧ GdR P D2 (j + 1) ∧
      (∀ k, k < 8 → D2.med (8 * lnN P (toI P j) + k) = D.med (8 * lnN P (fromI P j) + k)) ∧ ∀ x, (x < 8 * lnN P (toI P j) ∨ 8 * lnN P (toI P j) + 8 ≤ x) → x ≠ 8 * lnN P ((P.l : Int) + 1) → D2.med x = D.med x := by
  obtain ⟨q1, q2, q3, q4, q5, q6⟩ := rg_nums hP
  obtain ⟨f1, f2, t1, t2, ne⟩ := from_in hP j
  have ha : (bankR P).a = P.a := rfl
  have hrl := lnN_val hP (z := (P.l : Int) + 1) (by omega)
  have htl := lnN_val hP t1
  have hfl := lnN_val hP f1
  have hR : readR D (bankR P) B0 (fromI P j) = (⟨(getT D (lnN P (fromI P j))).toArray⟩, 0) := by
    unfold readR
    rw [if_pos ⟨f1, by show fromI P j < (P.l : Int) + 2; omega⟩, G.calm.off, place0 hP f1, Int.toNat_natCast]
    simp
  rw [hR]
  obtain ⟨D1, a1, a2, a3, a4, a5⟩ := gd_line hP G t1 t2 (line_size D (lnN P (fromI P j)))
  obtain ⟨k1, k2⟩ := pkN_val hP (j + 1) (by omega)
  obtain ⟨D2, b1, b2, b3, b4, b5, b6, b7⟩ := gd_word hP a2 (z := (P.l : Int) + 1) (by omega) (Int.le_refl _) (k := 0) (by omega) k2
  rw [Nat.add_zero] at b6 b7
  refine ⟨D1, D2, rfl, a1, b1, a3, b2.trans a3, ⟨b3, b4, by rw [b2]; exact a2.fit, b5, b6, fun k hk => by rw [b7 _ (by omega)]; exact a2.tab k hk⟩, fun k hk => ?_, fun x hx hne => ?_⟩
  · rw [b7 _ (by omega), a4 k hk, line_words G.calm G.mb k hk]
  · rw [b7 _ hne, a5 x hx]
theorem gd_reads (hP : OkR P) (G : GdR P D j) {z : Int} (h0 : 0 ≤ z) (h1 : z ≤ (P.l : Int) + 1) : readR D (bankR P) B0 z = (⟨(getT D (lnN P z)).toArray⟩, 0) := by
  unfold readR
  rw [if_pos ⟨h0, by show z < (P.l : Int) + 2; omega⟩, G.calm.off, place0 hP h0, Int.toNat_natCast]
  simp
end
end Go.Proofs.YtjbhallhmnahbaaGreat

/-
  Layer 7, pure: how a region stands behind so many moves; the counts of RingEven (by the kernel, for all plans that the law can make).
-/
namespace Go.Proofs.YtjbhallhmnahbaaGreat

/-- The slot of line i, of l lines, behind j moves. -/
def slotN (l j i : Nat) : Nat := if (i + j / (l + 1) % l) % l < l - j % (l + 1) then (i + j / (l + 1) % l) % l else (i + j / (l + 1) % l) % l + 1
end Go.Proofs.YtjbhallhmnahbaaGreat

/-
  The frame of a law's row, the part that is the same for all: arrays of integers opened; facts on the program.
-/
namespace Go.Proofs.YtjbhallhmnahbaaGreat
open Go.ChangeShapes Go.WideShapes Go.ChangeAt Go.RowKit

theorem own_ : ownKnob Tryz.prog.godebug = none := by kernel_rfl
theorem laid_ : laidOutB Tryz.prog = true := by kernel_rfl

end Go.Proofs.YtjbhallhmnahbaaGreat

/-
  RingEven: the plan; what the numbers are behind n writes.
-/
namespace Go.Proofs.YtjbhallhmnahbaaGreat
open Go.RowKit
set_option linter.unusedVariables false

theorem slotJ_N (P : PlanR) (j i : Nat) (h1 : 1 ≤ P.l) : slotJ P j i = ((slotN P.l j i : Nat) : Int) := by
  unfold slotJ slotI slotN sAt gAt
  have e : ((i : Int) + ((j / (P.l + 1) % P.l : Nat) : Int)) % (P.l : Int) = (((i + j / (P.l + 1) % P.l) % P.l : Nat) : Int) := by
    rw [← Int.natCast_add, Int.natCast_emod]
  rw [e]
  have h2 := Nat.mod_lt j (show 0 < P.l + 1 by omega)
  by_cases c : (i + j / (P.l + 1) % P.l) % P.l < P.l - j % (P.l + 1)
  · rw [if_pos c, if_pos (by omega)]
  · rw [if_neg c, if_neg (by omega)]
    omega
theorem gAt_N (l j : Nat) : gAt l j = ((l - j % (l + 1) : Nat) : Int) := by
  have h2 := Nat.mod_lt j (show 0 < l + 1 by omega)
  unfold gAt
  omega
end Go.Proofs.YtjbhallhmnahbaaGreat

/-
  Layer 7, pure: the slots of lines: two lines are never at one; what a move does to them.
-/
namespace Go.Proofs.YtjbhallhmnahbaaGreat
set_option linter.unusedVariables false

theorem mod_two {x l : Nat} (h : x < 2 * l) : x % l = if x < l then x else x - l := by
  split
  · exact Nat.mod_eq_of_lt (by omega)
  · rw [Nat.mod_eq_sub_mod (by omega)]
    exact Nat.mod_eq_of_lt (by omega)
theorem slotN_le {l j i : Nat} (h1 : 1 ≤ l) : slotN l j i ≤ l := by
  unfold slotN
  have := Nat.mod_lt (i + j / (l + 1) % l) (show 0 < l by omega)
  split <;> omega
theorem slotN_inj {l j i i2 : Nat} (h1 : 1 ≤ l) (hi : i < l) (hi2 : i2 < l) (h : slotN l j i = slotN l j i2) : i = i2 := by
  unfold slotN at h
  have hS := Nat.mod_lt (j / (l + 1)) (show 0 < l by omega)
  generalize j / (l + 1) % l = S at *
  have a := mod_two (x := i + S) (l := l) (by omega)
  have b := mod_two (x := i2 + S) (l := l) (by omega)
  have c : (i + S) % l = (i2 + S) % l := by
    split at h <;> split at h <;> omega
  rw [a, b] at c
  split at c <;> split at c <;> omega
def fromN (l j : Nat) : Nat := if 0 < l - j % (l + 1) then l - j % (l + 1) - 1 else l
def toN (l j : Nat) : Nat := l - j % (l + 1)
theorem slotN_step {l j i : Nat} (h1 : 1 ≤ l) : slotN l (j + 1) i = if slotN l j i = fromN l j then toN l j else slotN l j i := by
  have ht := Nat.mod_lt j (show 0 < l + 1 by omega)
  by_cases c : j % (l + 1) + 1 < l + 1
  · obtain ⟨a, b⟩ := div_next j (l + 1) (by omega) c
    unfold slotN fromN toN
    rw [a, b]
    have hr := Nat.mod_lt (i + j / (l + 1) % l) (show 0 < l by omega)
    generalize (i + j / (l + 1) % l) % l = r at *
    generalize j % (l + 1) = t at *
    rw [if_pos (show 0 < l - t by omega)]
    by_cases d : r < l - t
    · rw [if_pos d]
      by_cases e : r < l - (t + 1)
      · rw [if_pos e, if_neg (by omega)]
      · rw [if_neg e, if_pos (by omega)]; omega
    · rw [if_neg d, if_neg (by omega), if_neg (by omega)]
  · obtain ⟨a, b⟩ := div_wrap j (l + 1) (by omega) c
    unfold slotN fromN toN
    rw [a, b]
    have ht2 : j % (l + 1) = l := by omega
    rw [ht2]
    have hr := Nat.mod_lt (i + j / (l + 1) % l) (show 0 < l by omega)
    have e : (i + (j / (l + 1) + 1) % l) % l = ((i + j / (l + 1) % l) % l + 1) % l := by
      generalize j / (l + 1) = J
      rw [Nat.add_mod_mod, Nat.mod_add_mod, ← Nat.add_assoc, show i + J % l + 1 = (i + 1) + J % l by omega, Nat.add_mod_mod, show i + 1 + J = i + J + 1 by omega]
    rw [e]
    generalize (i + j / (l + 1) % l) % l = r at *
    rw [if_neg (show ¬ r < l - l by omega), if_neg (show ¬ 0 < l - l by omega)]
    have f := mod_two (x := r + 1) (l := l) (by omega)
    by_cases d : r + 1 < l
    · rw [if_pos d] at f
      rw [f, if_pos (by omega), if_neg (by omega)]
    · rw [if_neg d] at f
      rw [f, if_pos (by omega), if_pos (by omega)]
      omega
theorem fromI_N (P : PlanR) (j : Nat) : fromI P j = ((fromN P.l j : Nat) : Int) := by
  unfold fromI fromN
  rw [gAt_N]
  by_cases c : 0 < P.l - j % (P.l + 1)
  · rw [if_pos (by omega), if_pos c]; omega
  · rw [if_neg (by omega), if_neg c]
theorem toI_N (P : PlanR) (j : Nat) : toI P j = ((toN P.l j : Nat) : Int) := by
  unfold toI toN
  rw [gAt_N]
end Go.Proofs.YtjbhallhmnahbaaGreat

/-
  Layer 7, pure: what the lines of a region have, behind a write and behind a move.
-/
namespace Go.Proofs.YtjbhallhmnahbaaGreat
set_option linter.unusedVariables false

theorem slotN_ne_to {l j i : Nat} : slotN l j i ≠ toN l j := by
  unfold slotN toN
  split <;> omega
/-- Word k of line i. -/
def wdR (P : PlanR) (D : DevS) (j i k : Nat) : Nat := D.med (8 * lnN P ((slotN P.l j i : Nat) : Int) + k)
section
variable {P : PlanR} {D E : DevS} {j : Nat}
theorem lnN_inj (hP : OkR P) {z z2 : Int} (h : 0 ≤ z) (h2 : 0 ≤ z2) (e : lnN P z = lnN P z2) : z = z2 := by
  have a := lnN_val hP h
  have b := lnN_val hP h2
  omega
theorem cont_line (hP : OkR P) {i : Nat} {f : Nat → Nat} (hi : i < P.l) (hw : ∀ k, k < 8 → E.med (8 * lnN P (slotJ P j i) + k) = f k) (hm : ∀ x, (x < 8 * lnN P (slotJ P j i) ∨ 8 * lnN P (slotJ P j i) + 8 ≤ x) → E.med x = D.med x) :
    ∀ i2 k, i2 < P.l → k < 8 → wdR P E j i2 k = if i2 = i then f k else wdR P D j i2 k := by
  intro i2 k h2 hk
  rw [slotJ_N P j i hP.l1] at hw hm
  unfold wdR
  by_cases c : i2 = i
  · subst c
    rw [if_pos rfl]
    exact hw k hk
  · rw [if_neg c]
    have hne : lnN P ((slotN P.l j i2 : Nat) : Int) ≠ lnN P ((slotN P.l j i : Nat) : Int) := fun e => c (slotN_inj (j := j) hP.l1 h2 hi (by have := lnN_inj hP (by omega) (by omega) e; omega))
    exact hm _ (by omega)
theorem cont_move (hP : OkR P) (h1 : ∀ k, k < 8 → E.med (8 * lnN P (toI P j) + k) = D.med (8 * lnN P (fromI P j) + k))
    (h2 : ∀ x, (x < 8 * lnN P (toI P j) ∨ 8 * lnN P (toI P j) + 8 ≤ x) → x ≠ 8 * lnN P ((P.l : Int) + 1) → E.med x = D.med x) :
    ∀ i k, i < P.l → k < 8 → wdR P E (j + 1) i k = wdR P D j i k := by
  intro i k hi hk
  rw [toI_N, fromI_N] at h1
  rw [toI_N] at h2
  unfold wdR
  rw [slotN_step hP.l1]
  by_cases c : slotN P.l j i = fromN P.l j
  · rw [if_pos c, c]
    exact h1 k hk
  · rw [if_neg c]
    have hle := slotN_le (j := j) (i := i) hP.l1
    have hnt := slotN_ne_to (l := P.l) (j := j) (i := i)
    have e1 : lnN P ((slotN P.l j i : Nat) : Int) ≠ lnN P ((toN P.l j : Nat) : Int) := fun e => hnt (by have := lnN_inj hP (by omega) (by omega) e; omega)
    have e2 : lnN P ((slotN P.l j i : Nat) : Int) ≠ lnN P ((P.l : Int) + 1) := fun e => by have := lnN_inj hP (by omega) (by omega) e; omega
    exact h2 _ (by omega) (by omega)
end
end Go.Proofs.YtjbhallhmnahbaaGreat
