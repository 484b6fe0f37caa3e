/-
  SkAu: SpAe, RgG, RgP, Frame, RgJ, RgN, RgO, RgV, RgW.
-/
import Derived.Test.YtifekejcbhllpaaGreatSkAo
import Derived.Test.YtifekejcbhllpaaGreatSkAn
import Derived.Test.YtifekejcbhllpaaGreatSkAr
import Derived.Test.YtifekejcbhllpaaGreatSkAe
import Derived.Test.YtifekejcbhllpaaGreatSkAt
import Derived.Test.YtifekejcbhllpaaGreatRows
import Derived.WalkKit
import Derived.ProofKit
import Derived.OpenShut
import Derived.SizedLaws
import Derived.ChangeSlices
import Derived.Deep.Slices
import Derived.Deep.Grids

set_option linter.unusedVariables false

/-
  SpareTorn, pure: what is read behind Boot and Open.
-/
namespace Go.Proofs.YtifekejcbhllpaaGreat
open Go.RowKit
set_option linter.unusedVariables false

section
variable {p : PlanZ} {D E : DevS} {B B' : BkS} {s : ByteArray} {i : Int}
theorem Kept.boot {l0 : Nat} {G : (Nat → Nat) → Prop} {L : List Nat} (kp : Nat → Bool) (h : Kept p i l0 D B (bare E) B' G) (hok : okZ p = true) (hd : Live E) (hL : IsPend E L) : Kept p i l0 D B (bootD E L kp) B' G := by
  have hm : (bootD E L kp).med = (bare E).med := boot_live kp hd hL
  refine ⟨h.ti.congr hok (boot_calm E L kp) rfl rfl hm, h.n, h.bad, fun x h1 h2 => by rw [hm]; exact h.fr x h1 h2, h.wh, ?_⟩
  rw [hm]
  exact h.got
/-- What a write leaves behind Boot. -/
theorem WrL.boot {l0 : Nat} {C : (Nat → Nat) → Prop} {e : Int} {L : List Nat} (kp : Nat → Bool) (h : WrL p i l0 s D B C e E B') (hok : okZ p = true) (hC : ∀ F, One2 (fun k => D.med (8 * l0 + k)) (wdL s.data.toList) F → C F) (hL : IsPend E L) :
    (e = 0 ∨ e = 10 ∨ e = 6) ∧ ∃ B'', Kept p i l0 D B (bootD E L kp) B'' (fun F => (e = 0 → IsW (wdL s.data.toList) F) ∧ (e = 10 → IsW (fun k => D.med (8 * l0 + k)) F) ∧ C F) := by
  unfold WrL at h
  rcases h with ⟨rfl, a2, a3⟩ | ⟨rfl, a2, a3⟩ | ⟨rfl, a2, a3, a4, a5⟩
  · exact ⟨.inl rfl, B', (a3.boot kp hok a2 hL).imp fun F hF => ⟨fun _ => hF, fun e => by omega, hC F (.inr hF)⟩⟩
  · exact ⟨.inr (.inl rfl), B', (a3.boot kp hok a2 hL).imp fun F hF => ⟨fun e => by omega, fun _ => hF, hC F (.inl hF)⟩⟩
  · obtain ⟨B3, z⟩ := a5 L kp hL
    exact ⟨.inr (.inr rfl), B3, z.imp fun F hF => ⟨fun e => by omega, fun e => by omega, hF⟩⟩
theorem line_words {l : Nat} (hc : Calm D) (hm : ∀ x, D.med x < 18446744073709551616) (k : Nat) (hk : k < 8) : wdL (⟨(getT D l).toArray⟩ : ByteArray).data.toList k = D.med (8 * l + k) := by
  have e : lineF D l = fun j => D.med (8 * l + j) := lineF_live ⟨hc.off, hc.buf⟩ l
  rw [lineF_text, e, wd_textU (fun j => hm _) k hk]
theorem line_size (D : DevS) (l : Nat) : (⟨(getT D l).toArray⟩ : ByteArray).size = 64 := by
  rw [lineF_text]; exact textU_size _
end
def B0 : BkS := ⟨0, fun _ => none⟩
section
variable {D E : DevS} {B' : BkS} {S A T : ByteArray}
end
end Go.Proofs.YtifekejcbhllpaaGreat

/-
  Layer 7, pure: a region on a device that is on and unbroken.
-/
namespace Go.Proofs.YtifekejcbhllpaaGreat
open Go.RowKit
set_option linter.unusedVariables false

/-- The device's line of the bank's line z. -/
def lnN (P : PlanR) (z : Int) : Nat := (P.a + tabZ (bankR P) + z).toNat
structure GdR (P : PlanR) (D : DevS) (j : Nat) : Prop where
  calm : Calm D
  bad : D.bad = fun _ => false
  fit : (bankR P).a + sizeZ (bankR P) ≤ (D.n : Int)
  mb : ∀ x, D.med x < 18446744073709551616
  reg : D.med (8 * lnN P ((P.l : Int) + 1)) = pkN P j
  tab : ∀ k : Nat, (k : Int) < P.s → D.med (8 * P.a.toNat + k) = 0
section
variable {P : PlanR} {D : DevS} {j : Nat}
theorem lnN_val (hP : OkR P) {z : Int} (hz : 0 ≤ z) : ((lnN P z : Nat) : Int) = P.a + tabZ (bankR P) + z := by
  obtain ⟨h1, h2, h3, h4, h5, h6⟩ := (okZ_iff (bankR P)).1 hP.ok
  have h1' : 0 ≤ P.a := h1
  have ht : 0 ≤ tabZ (bankR P) := by unfold tabZ; omega
  unfold lnN
  omega
theorem place0 (hP : OkR P) {z : Int} (hz : 0 ≤ z) : placeP (bankR P) B0 z = ((lnN P z : Nat) : Int) := by
  rw [lnN_val hP hz]
  rfl
theorem rg_nums (hP : OkR P) : 0 ≤ P.a ∧ 0 ≤ P.s ∧ P.s ≤ 64 ∧ 0 ≤ tabZ (bankR P) ∧ P.s ≤ 8 * tabZ (bankR P) ∧ sizeZ (bankR P) = tabZ (bankR P) + ((P.l : Int) + 2) + P.s := by
  obtain ⟨h1, h2, h3, h4, h5, h6⟩ := (okZ_iff (bankR P)).1 hP.ok
  refine ⟨h1, h5, h6, ?_, ?_, ?_⟩
  · unfold tabZ; omega
  · have : (bankR P).s = P.s := rfl
    unfold tabZ; omega
  · unfold sizeZ; rw [if_pos hP.ok]; rfl
end
end Go.Proofs.YtifekejcbhllpaaGreat

/-
  Layer 7, pure: how a region stands behind so many moves; the counts of RingEven (by the kernel, for all plans that the law can make).
-/
namespace Go.Proofs.YtifekejcbhllpaaGreat

/-- The slot of line i, of l lines, behind j moves. -/
def slotN (l j i : Nat) : Nat := if (i + j / (l + 1) % l) % l < l - j % (l + 1) then (i + j / (l + 1) % l) % l else (i + j / (l + 1) % l) % l + 1
end Go.Proofs.YtifekejcbhllpaaGreat

/-
  The frame of a law's row, the part that is the same for all: arrays of integers opened; facts on the program.
-/
namespace Go.Proofs.YtifekejcbhllpaaGreat
open Go.ChangeShapes Go.WideShapes Go.ChangeAt Go.RowKit

theorem own_ : ownKnob Tryz.prog.godebug = none := by kernel_rfl
theorem laid_ : laidOutB Tryz.prog = true := by kernel_rfl

end Go.Proofs.YtifekejcbhllpaaGreat

/-
  RingEven: the plan; what the numbers are behind n writes.
-/
namespace Go.Proofs.YtifekejcbhllpaaGreat
open Go.RowKit
set_option linter.unusedVariables false

theorem slotJ_N (P : PlanR) (j i : Nat) (h1 : 1 ≤ P.l) : slotJ P j i = ((slotN P.l j i : Nat) : Int) := by
  unfold slotJ slotI slotN sAt gAt
  have e : ((i : Int) + ((j / (P.l + 1) % P.l : Nat) : Int)) % (P.l : Int) = (((i + j / (P.l + 1) % P.l) % P.l : Nat) : Int) := by
    rw [← Int.natCast_add, Int.natCast_emod]
  rw [e]
  have h2 := Nat.mod_lt j (show 0 < P.l + 1 by omega)
  by_cases c : (i + j / (P.l + 1) % P.l) % P.l < P.l - j % (P.l + 1)
  · rw [if_pos c, if_pos (by omega)]
  · rw [if_neg c, if_neg (by omega)]
    omega
theorem gAt_N (l j : Nat) : gAt l j = ((l - j % (l + 1) : Nat) : Int) := by
  have h2 := Nat.mod_lt j (show 0 < l + 1 by omega)
  unfold gAt
  omega
end Go.Proofs.YtifekejcbhllpaaGreat

/-
  Layer 7, pure: the slots of lines: two lines are never at one; what a move does to them.
-/
namespace Go.Proofs.YtifekejcbhllpaaGreat
set_option linter.unusedVariables false

theorem mod_two {x l : Nat} (h : x < 2 * l) : x % l = if x < l then x else x - l := by
  split
  · exact Nat.mod_eq_of_lt (by omega)
  · rw [Nat.mod_eq_sub_mod (by omega)]
    exact Nat.mod_eq_of_lt (by omega)
theorem slotN_le {l j i : Nat} (h1 : 1 ≤ l) : slotN l j i ≤ l := by
  unfold slotN
  have := Nat.mod_lt (i + j / (l + 1) % l) (show 0 < l by omega)
  split <;> omega
theorem slotN_inj {l j i i2 : Nat} (h1 : 1 ≤ l) (hi : i < l) (hi2 : i2 < l) (h : slotN l j i = slotN l j i2) : i = i2 := by
  unfold slotN at h
  have hS := Nat.mod_lt (j / (l + 1)) (show 0 < l by omega)
  generalize j / (l + 1) % l = S at *
  have a := mod_two (x := i + S) (l := l) (by omega)
  have b := mod_two (x := i2 + S) (l := l) (by omega)
  have c : (i + S) % l = (i2 + S) % l := by
    split at h <;> split at h <;> omega
  rw [a, b] at c
  split at c <;> split at c <;> omega
def fromN (l j : Nat) : Nat := if 0 < l - j % (l + 1) then l - j % (l + 1) - 1 else l
def toN (l j : Nat) : Nat := l - j % (l + 1)
theorem slotN_step {l j i : Nat} (h1 : 1 ≤ l) : slotN l (j + 1) i = if slotN l j i = fromN l j then toN l j else slotN l j i := by
  have ht := Nat.mod_lt j (show 0 < l + 1 by omega)
  by_cases c : j % (l + 1) + 1 < l + 1
  · obtain ⟨a, b⟩ := div_next j (l + 1) (by omega) c
    unfold slotN fromN toN
    rw [a, b]
    have hr := Nat.mod_lt (i + j / (l + 1) % l) (show 0 < l by omega)
    generalize (i + j / (l + 1) % l) % l = r at *
    generalize j % (l + 1) = t at *
    rw [if_pos (show 0 < l - t by omega)]
    by_cases d : r < l - t
    · rw [if_pos d]
      by_cases e : r < l - (t + 1)
      · rw [if_pos e, if_neg (by omega)]
      · rw [if_neg e, if_pos (by omega)]; omega
    · rw [if_neg d, if_neg (by omega), if_neg (by omega)]
  · obtain ⟨a, b⟩ := div_wrap j (l + 1) (by omega) c
    unfold slotN fromN toN
    rw [a, b]
    have ht2 : j % (l + 1) = l := by omega
    rw [ht2]
    have hr := Nat.mod_lt (i + j / (l + 1) % l) (show 0 < l by omega)
    have e : (i + (j / (l + 1) + 1) % l) % l = ((i + j / (l + 1) % l) % l + 1) % l := by
      generalize j / (l + 1) = J
      rw [Nat.add_mod_mod, Nat.mod_add_mod, ← Nat.add_assoc, show i + J % l + 1 = (i + 1) + J % l by omega, Nat.add_mod_mod, show i + 1 + J = i + J + 1 by omega]
    rw [e]
    generalize (i + j / (l + 1) % l) % l = r at *
    rw [if_neg (show ¬ r < l - l by omega), if_neg (show ¬ 0 < l - l by omega)]
    have f := mod_two (x := r + 1) (l := l) (by omega)
    by_cases d : r + 1 < l
    · rw [if_pos d] at f
      rw [f, if_pos (by omega), if_neg (by omega)]
    · rw [if_neg d] at f
      rw [f, if_pos (by omega), if_pos (by omega)]
      omega
theorem fromI_N (P : PlanR) (j : Nat) : fromI P j = ((fromN P.l j : Nat) : Int) := by
  unfold fromI fromN
  rw [gAt_N]
  by_cases c : 0 < P.l - j % (P.l + 1)
  · rw [if_pos (by omega), if_pos c]; omega
  · rw [if_neg (by omega), if_neg c]
theorem toI_N (P : PlanR) (j : Nat) : toI P j = ((toN P.l j : Nat) : Int) := by
  unfold toI toN
  rw [gAt_N]
end Go.Proofs.YtifekejcbhllpaaGreat

/-
  Layer 7, pure: what the lines of a region have, behind a write and behind a move.
-/
namespace Go.Proofs.YtifekejcbhllpaaGreat
set_option linter.unusedVariables false

theorem slotN_ne_to {l j i : Nat} : slotN l j i ≠ toN l j := by
  unfold slotN toN
  split <;> omega
/-- Word k of line i. -/
def wdR (P : PlanR) (D : DevS) (j i k : Nat) : Nat := D.med (8 * lnN P ((slotN P.l j i : Nat) : Int) + k)
section
variable {P : PlanR} {D E : DevS} {j : Nat}
end
end Go.Proofs.YtifekejcbhllpaaGreat

/-
  Layer 7, pure: what lasts of a region's write, wherever the power fails, whichever lines broke.
-/
namespace Go.Proofs.YtifekejcbhllpaaGreat
open Go.RowKit
set_option linter.unusedVariables false

section
variable {p : PlanZ} {D E : DevS} {B B' : BkS} {s : ByteArray} {i : Int}
theorem openS_inj : ∀ (r k : Nat) (B B' : BkS), openS p D r k B = (0, B') → (∀ x j, B.wh x = some j → j < k) → (∀ x y j, B.wh x = some j → B.wh y = some j → x = y) → ∀ x y j, B'.wh x = some j → B'.wh y = some j → x = y
  | 0, k, B, B', h, _, hw => by
    have : B = B' := (Prod.mk.inj h).2
    rw [← this]; exact hw
  | r + 1, k, B, B', h, hu, hw => by
    rw [openS] at h
    by_cases c : (noteS p k (loadV D (8 * p.a.toNat + k)) B).1 ≠ 0
    · rw [if_pos c] at h
      cases h
    · rw [if_neg c] at h
      generalize loadV D (8 * p.a.toNat + k) = v at *
      have key : ∀ x j, (noteS p k v B).2.wh x = some j → (B.wh x = some j ∨ (x = (low48 v : Int) - 1 ∧ j = k)) ∧ (B.wh x = some j ∨ j = k) := by
        intro x j e
        unfold noteS at e
        split at e
        · exact ⟨.inl e, .inl e⟩
        · split at e
          · exact ⟨.inl e, .inl e⟩
          · have e2 : (noteB k v B).wh x = some j := e
            unfold noteB at e2
            simp only at e2
            split at e2
            · exact ⟨.inl e2, .inl e2⟩
            · unfold updZ at e2
              split at e2
              · rename_i hx
                injection e2 with e2
                exact ⟨.inr ⟨hx, e2.symm⟩, .inr e2.symm⟩
              · exact ⟨.inl e2, .inl e2⟩
      refine openS_inj r (k + 1) _ B' h ?_ ?_
      · intro x j e
        rcases (key x j e).2 with q | q
        · have := hu x j q; omega
        · omega
      · intro x y j e1 e2
        rcases (key x j e1).1 with q1 | ⟨q1, q1j⟩ <;> rcases (key y j e2).1 with q2 | ⟨q2, q2j⟩
        · exact hw x y j q1 q2
        · have := hu x j q1; omega
        · have := hu y j q2; omega
        · rw [q1, q2]
theorem TI.inj (h : TI p D B) : ∀ x y j, B.wh x = some j → B.wh y = some j → x = y := openS_inj _ 0 _ _ h.op (fun x j e => by cases e) (fun x y j e => by cases e)
theorem place_inj (h : TI p D B) {z : Int} (hi : inP p i) (hz : inP p z) (e : placeP p B i = placeP p B z) : i = z := by
  obtain ⟨i0, i9⟩ : 0 ≤ i ∧ i < p.l := hi
  obtain ⟨z0, z9⟩ : 0 ≤ z ∧ z < p.l := hz
  unfold placeP at e
  cases e1 : B.wh i with
  | some k =>
    cases e2 : B.wh z with
    | some k2 =>
      rw [e1, e2] at e
      simp only at e
      unfold spareP at e
      have : k = k2 := by omega
      subst this
      exact h.inj i z k e1 e2
    | none =>
      rw [e1, e2] at e
      simp only at e
      unfold spareP lineP at e
      omega
  | none =>
    cases e2 : B.wh z with
    | some k2 =>
      rw [e1, e2] at e
      simp only at e
      unfold spareP lineP at e
      omega
    | none =>
      rw [e1, e2] at e
      simp only at e
      unfold lineP at e
      omega
/-- What a bank's line has. -/
def cntZ (p : PlanZ) (B : BkS) (D : DevS) (z : Int) (k : Nat) : Nat := D.med (8 * (placeP p B z).toNat + k)
theorem Kept.cnt {l0 : Nat} {G : (Nat → Nat) → Prop} (h : Kept p i l0 D B E B' G) (hB : TI p (bare D) B) (hok : okZ p = true) (hi : inP p i) (hp : placeP p B i = (l0 : Int)) :
    (∀ z, inP p z → z ≠ i → ∀ k, k < 8 → cntZ p B' E z k = cntZ p B D z k) ∧ G (cntZ p B' E i) := by
  refine ⟨fun z hz hne k hk => ?_, ?_⟩
  · obtain ⟨lz, pz, bz, cz, dz⟩ := hB.place hok hz
    have hpz : placeP p B' z = placeP p B z := by unfold placeP; rw [h.wh z hne]
    have hll : lz ≠ l0 := fun e => hne (place_inj hB hz hi (by rw [pz, hp, e]))
    unfold cntZ
    rw [hpz, pz, Int.toNat_natCast]
    exact h.fr _ (.inr (.inl ⟨by omega, by omega⟩)) (by omega)
  · obtain ⟨l, a, b, c⟩ := h.got
    unfold cntZ
    rw [a, Int.toNat_natCast]
    exact c
theorem wd_textU8 {F : Nat → Nat} (hF : ∀ j, j < 8 → F j < 18446744073709551616) (k : Nat) (hk : k < 8) : wdL (textU F).data.toList k = F k := by
  have e : (textU F).data.toList = catL [F 0, F 1, F 2, F 3, F 4, F 5, F 6, F 7] := by simp [textU]
  rw [e]
  refine wdL_all _ (fun n hn => ?_) k _ ?_
  · simp only [List.mem_cons, List.not_mem_nil, or_false] at hn
    rcases hn with rfl | rfl | rfl | rfl | rfl | rfl | rfl | rfl <;> exact hF _ (by omega)
  · rcases lt8 hk with rfl | rfl | rfl | rfl | rfl | rfl | rfl | rfl <;> rfl
theorem ww_last8 {k v : Nat} (h : TI p (bare D) B) (hd : Live D) (hmed : ∀ l : Nat, placeP p B i = (l : Int) → ∀ k, k < 8 → D.med (8 * l + k) < 18446744073709551616) (hv : v < 18446744073709551616) (hok : okZ p = true) (hi : inP p i) (hk : k < 8) :
    ∃ (l0 : Nat) (e : Int) (E : DevS) (B' : BkS), placeP p B i = (l0 : Int) ∧ writeWordS p i (k : Int) v D B = (e, E, B') ∧ WrL p i l0 (textU (updF (fun j => D.med (8 * l0 + j)) k v)) D B (One2 (fun k => D.med (8 * l0 + k)) (updF (fun j => D.med (8 * l0 + j)) k v)) e E B' := by
  obtain ⟨l0, hp, hln, hl1, hl2⟩ := h.place hok hi
  have hln2 : l0 < D.n := hln
  have hF2 : ∀ j, j < 8 → updF (fun j => D.med (8 * l0 + j)) k v j < 18446744073709551616 := fun j hj => by
    unfold updF; split
    · exact hv
    · exact hmed l0 hp j hj
  have hwr : writeWordS p i (k : Int) v D B = if (pwE D (l0 : Int) (k : Int) v).1 ≠ 0 then ((pwE D (l0 : Int) (k : Int) v).1, (pwE D (l0 : Int) (k : Int) v).2, B) else ensureS p i (l0 : Int) (textU (updF (fun j => D.med (8 * l0 + j)) k v)) (pwE D (l0 : Int) (k : Int) v).2 B := by
    unfold writeWordS
    rw [if_neg (by omega), if_pos hi, hd.off, hp, Int.toNat_natCast, Int.toNat_natCast, lineF_live hd]
    simp
  obtain ⟨S, hS⟩ : ∃ S, S = textU (updF (fun j => D.med (8 * l0 + j)) k v) := ⟨_, rfl⟩
  have hS64 : S.size = 64 := by rw [hS]; exact textU_size _
  have hSw : ∀ j, j < 8 → wdL S.data.toList j = updF (fun j => D.med (8 * l0 + j)) k v j := fun j hj => by rw [hS]; exact wd_textU8 hF2 j hj
  rw [← hS] at hwr
  refine ⟨l0, ?_⟩
  rw [← hS]
  rcases putword_live (l := l0) (k := k) (v := v) hd hln2 hk with ⟨E2, e2, s2⟩ | ⟨E, e2, s2⟩
  · obtain ⟨e, E, B', q1, q2⟩ := ensure_last (C := One2 (fun k => D.med (8 * l0 + k)) (updF (fun j => D.med (8 * l0 + j)) k v)) hok hi hS64 h hp hl1 hl2 hln2 s2 (by omega) (by omega) (fun hb j hj => by
      rw [s2.med, hSw j hj]
      unfold updF
      by_cases c : j = k
      · rw [if_pos c, if_pos ⟨by omega, by omega, hb⟩]
      · rw [if_neg c, if_neg (by omega)]) (fun F hF => hF.elim .inl fun q => .inr fun j hj => by rw [q j hj, hSw j hj])
    refine ⟨e, E, B', hp, ?_, q2⟩
    rw [hwr, e2]
    show (if (0 : Int) ≠ 0 then _ else _) = _
    rw [if_neg (by simp)]
    exact q1
  · refine ⟨6, E, B, hp, ?_, .inr (.inr ⟨rfl, s2.off, s2.n, s2.bad, fun L kp hL => ⟨B, ?_⟩⟩)⟩
    · rw [hwr, e2]
      rfl
    · have hb := boot_torn kp s2 hL
      have hm : ∀ x, (x < 8 * l0 ∨ 8 * l0 + 8 ≤ x) → (bootD E L kp).med x = D.med x := fun x hx => by
        rcases hb x with e | ⟨j, j1, j2, _⟩
        · exact e
        · omega
      refine ⟨h.keep (boot_calm E L kp) s2.n (fun x hx => hm x (by omega)) hok (fun l q1 q2 => by rw [bootD_bad, s2.bad]; exact h.tb l q1 q2), s2.n, s2.bad, fun x _ hx => hm x hx, fun _ _ => rfl, l0, hp, hln2, ?_⟩
      by_cases c : (bootD E L kp).med (8 * l0 + k) = v
      · right
        intro j hj
        show (bootD E L kp).med (8 * l0 + j) = _
        unfold updF
        by_cases d : j = k
        · rw [if_pos d, d, c]
        · rw [if_neg d]
          rcases hb (8 * l0 + j) with e | ⟨j', j1, j2, _⟩
          · exact e
          · omega
      · left
        intro j hj
        show (bootD E L kp).med (8 * l0 + j) = _
        rcases hb (8 * l0 + j) with e | ⟨j', j1, j2, j3, _⟩
        · exact e
        · exfalso
          apply c
          obtain rfl : j = k := by omega
          exact j3
/-- A live line's words. -/
theorem live_words (hd : Live D) {l : Nat} (hm : ∀ k, k < 8 → D.med (8 * l + k) < 18446744073709551616) (k : Nat) (hk : k < 8) : wdL (⟨(getT D l).toArray⟩ : ByteArray).data.toList k = D.med (8 * l + k) := by
  rw [lineF_text, lineF_live hd, wd_textU8 (fun j hj => hm j hj) k hk]
theorem writeS_n (h : TI p (bare D) B) (hd : Live D) (hok : okZ p = true) (hi : inP p i) (hs : s.size = 64) : (writeS p i s D B).2.1.n = D.n := by
  obtain ⟨l0, e, E, B', q1, q2, q3⟩ := write_last h hd hok hi hs
  rw [q2]
  rcases q3 with ⟨_, _, a⟩ | ⟨_, _, a⟩ | ⟨_, _, a, _⟩
  · exact a.n
  · exact a.n
  · exact a
end
/-- A region's contents, with the bank as it stands. -/
structure RgC (P : PlanR) (D : DevS) (B : BkS) (j : Nat) (F : Nat → Nat → Nat) : Prop where
  ti : TI (bankR P) D B
  reg : cntZ (bankR P) B D ((P.l : Int) + 1) 0 = pkN P j
  wd : ∀ i k, i < P.l → k < 8 → cntZ (bankR P) B D ((slotN P.l j i : Nat) : Int) k = F i k
/-- The same, but for line i0, of which G says what it has. -/
structure RgD (P : PlanR) (D : DevS) (B : BkS) (j i0 : Nat) (F : Nat → Nat → Nat) (G : (Nat → Nat) → Prop) : Prop where
  ti : TI (bankR P) D B
  reg : cntZ (bankR P) B D ((P.l : Int) + 1) 0 = pkN P j
  wd : ∀ i k, i < P.l → k < 8 → i ≠ i0 → cntZ (bankR P) B D ((slotN P.l j i : Nat) : Int) k = F i k
  got : G (cntZ (bankR P) B D ((slotN P.l j i0 : Nat) : Int))
section
variable {P : PlanR} {D E : DevS} {B B' : BkS} {j i0 l0 : Nat} {F : Nat → Nat → Nat} {G G' : (Nat → Nat) → Prop}
theorem inR (P : PlanR) {z : Int} (h0 : 0 ≤ z) (h1 : z ≤ (P.l : Int) + 1) : inP (bankR P) z := ⟨h0, by show z < (P.l : Int) + 2; omega⟩
theorem RgD.imp (h : RgD P D B j i0 F G) (hG : ∀ H, G H → G' H) : RgD P D B j i0 F G' := ⟨h.ti, h.reg, h.wd, hG _ h.got⟩
theorem RgC.toD (h : RgC P D B j F) (hi : i0 < P.l) : RgD P D B j i0 F (IsW (F i0)) := ⟨h.ti, h.reg, fun i k hi hk _ => h.wd i k hi hk, fun k hk => h.wd i0 k hi hk⟩
theorem RgC.line (hP : OkR P) (h : RgC P (bare D) B j F) (hi : i0 < P.l) (hp : placeP (bankR P) B ((slotN P.l j i0 : Nat) : Int) = (l0 : Int)) (hk : Kept (bankR P) ((slotN P.l j i0 : Nat) : Int) l0 D B E B' G) : RgD P E B' j i0 F G := by
  have hle := slotN_le (j := j) (i := i0) hP.l1
  obtain ⟨c1, c2⟩ := hk.cnt h.ti hP.ok (inR P (by omega) (by omega)) hp
  refine ⟨hk.ti, ?_, fun i k hil hk8 hne => ?_, c2⟩
  · rw [c1 _ (inR P (by omega) (by omega)) (by omega) 0 (by omega)]
    exact h.reg
  · have hle2 := slotN_le (j := j) (i := i) hP.l1
    rw [c1 _ (inR P (by omega) (by omega)) (fun e => hne (slotN_inj (j := j) hP.l1 hil hi (by omega))) k hk8]
    exact h.wd i k hil hk8
theorem RgC.to (hP : OkR P) (h : RgC P (bare D) B j F) (hp : placeP (bankR P) B ((toN P.l j : Nat) : Int) = (l0 : Int)) (hk : Kept (bankR P) ((toN P.l j : Nat) : Int) l0 D B E B' G) : RgC P E B' j F ∧ G (cntZ (bankR P) B' E ((toN P.l j : Nat) : Int)) := by
  have hle : toN P.l j ≤ P.l := by unfold toN; omega
  obtain ⟨c1, c2⟩ := hk.cnt h.ti hP.ok (inR P (by omega) (by omega)) hp
  refine ⟨⟨hk.ti, ?_, fun i k hil hk8 => ?_⟩, c2⟩
  · rw [c1 _ (inR P (by omega) (by omega)) (by omega) 0 (by omega)]
    exact h.reg
  · have hle2 := slotN_le (j := j) (i := i) hP.l1
    have hnt := slotN_ne_to (l := P.l) (j := j) (i := i)
    rw [c1 _ (inR P (by omega) (by omega)) (fun e => hnt (by omega)) k hk8]
    exact h.wd i k hil hk8
/-- The register is written: the lines are where they were, and where they are to be. -/
theorem RgC.reg1 (hP : OkR P) (h : RgC P (bare D) B j F) (hT : ∀ i k, i < P.l → k < 8 → slotN P.l j i = fromN P.l j → cntZ (bankR P) B D ((toN P.l j : Nat) : Int) k = F i k) (hp : placeP (bankR P) B ((P.l : Int) + 1) = (l0 : Int)) (hk : Kept (bankR P) ((P.l : Int) + 1) l0 D B E B' G) :
    G (cntZ (bankR P) B' E ((P.l : Int) + 1)) ∧ (cntZ (bankR P) B' E ((P.l : Int) + 1) 0 = pkN P j → RgC P E B' j F) ∧ (cntZ (bankR P) B' E ((P.l : Int) + 1) 0 = pkN P (j + 1) → RgC P E B' (j + 1) F) := by
  obtain ⟨c1, c2⟩ := hk.cnt h.ti hP.ok (inR P (by omega) (by omega)) hp
  refine ⟨c2, fun hr => ⟨hk.ti, hr, fun i k hil hk8 => ?_⟩, fun hr => ⟨hk.ti, hr, fun i k hil hk8 => ?_⟩⟩
  · have hle2 := slotN_le (j := j) (i := i) hP.l1
    rw [c1 _ (inR P (by omega) (by omega)) (by omega) k hk8]
    exact h.wd i k hil hk8
  · have hle2 := slotN_le (j := j) (i := i) hP.l1
    have hle3 : toN P.l j ≤ P.l := by unfold toN; omega
    rw [slotN_step hP.l1]
    by_cases c : slotN P.l j i = fromN P.l j
    · rw [if_pos c, c1 _ (inR P (by omega) (by omega)) (by omega) k hk8]
      exact hT i k hil hk8 c
    · rw [if_neg c, c1 _ (inR P (by omega) (by omega)) (by omega) k hk8]
      exact h.wd i k hil hk8
/-- What is said of the written line. -/
def GotL (F : Nat → Nat) (S : ByteArray) (e : Int) (H : Nat → Nat) : Prop := (e = 0 → IsW (wdL S.data.toList) H) ∧ (e = 10 → IsW F H) ∧ Mix2 F (wdL S.data.toList) H
theorem GotL.old {F : Nat → Nat} {S : ByteArray} {e : Int} {H : Nat → Nat} (he : e ≠ 0) (h : IsW F H) : GotL F S e H := ⟨fun q => absurd q he, fun _ => h, fun k hk => .inl (h k hk)⟩
/-- A line's write, where no move is due (or done). -/
theorem line_last (hP : OkR P) (hd : Live D) (h : RgC P (bare D) B j F) (hi : i0 < P.l) {S : ByteArray} (hS : S.size = 64) :
    (writeS (bankR P) (slotJ P j i0) S D B).2.1.n = D.n ∧ ((writeS (bankR P) (slotJ P j i0) S D B).1 = 0 ∨ (writeS (bankR P) (slotJ P j i0) S D B).1 = 10 ∨ (writeS (bankR P) (slotJ P j i0) S D B).1 = 6) ∧
      ∀ L kp, IsPend (writeS (bankR P) (slotJ P j i0) S D B).2.1 L → ∃ B'', RgD P (bootD (writeS (bankR P) (slotJ P j i0) S D B).2.1 L kp) B'' j i0 F (GotL (F i0) S (writeS (bankR P) (slotJ P j i0) S D B).1) := by
  have hle := slotN_le (j := j) (i := i0) hP.l1
  rw [slotJ_N P j i0 hP.l1]
  have hn := writeS_n h.ti hd hP.ok (inR P (z := ((slotN P.l j i0 : Nat) : Int)) (by omega) (by omega)) hS
  obtain ⟨l0, e, E, B', q1, q2, q3⟩ := write_last h.ti hd hP.ok (inR P (z := ((slotN P.l j i0 : Nat) : Int)) (by omega) (by omega)) hS
  rw [q2] at hn ⊢
  simp only at hn ⊢
  have hold : ∀ k, k < 8 → D.med (8 * l0 + k) = F i0 k := fun k hk => by
    have := h.wd i0 k hi hk
    unfold cntZ at this
    rw [q1, Int.toNat_natCast] at this
    exact this
  refine ⟨hn, ?_, fun L kp hL => ?_⟩
  · rcases q3 with ⟨a, _⟩ | ⟨a, _⟩ | ⟨a, _⟩
    · exact .inl a
    · exact .inr (.inl a)
    · exact .inr (.inr a)
  · obtain ⟨_, B'', k1⟩ := q3.boot kp hP.ok (fun F h => h.mix) hL
    exact ⟨B'', (h.line hP hi q1 k1).imp fun H ⟨a, b, c⟩ => ⟨a, fun e k hk => (b e k hk).trans (hold k hk), fun k hk => (c k hk).elim (fun q => .inl (q.trans (hold k hk))) .inr⟩⟩
/-- A move: whatever comes of it. -/
theorem move_last (hP : OkR P) (hd : Live D) (hm : ∀ x, D.med x < 18446744073709551616) (h : RgC P (bare D) B j F) (hj : j < 4294967295) :
    (readR D (bankR P) B (fromI P j)).2 = 0 ∧ (writeS (bankR P) (toI P j) (readR D (bankR P) B (fromI P j)).1 D B).2.1.n = D.n ∧ (movZ P D B j).2.1.n = D.n ∧
    (((movZ P D B j).1 = 0 ∧ Live (movZ P D B j).2.1 ∧ RgC P (bare (movZ P D B j).2.1) (movZ P D B j).2.2 (j + 1) F) ∨
     (((movZ P D B j).1 = 10 ∨ (movZ P D B j).1 = 6) ∧ ∀ L kp, IsPend (movZ P D B j).2.1 L → ∃ B'' j'', (j'' = j ∨ j'' = j + 1) ∧ RgC P (bootD (movZ P D B j).2.1 L kp) B'' j'' F)) := by
  have hle3 : toN P.l j ≤ P.l := by unfold toN; omega
  have hle4 : fromN P.l j ≤ P.l := by unfold fromN; split <;> omega
  have hif : inP (bankR P) (fromI P j) := by rw [fromI_N]; exact inR P (by omega) (by omega)
  have hit : inP (bankR P) (toI P j) := by rw [toI_N]; exact inR P (by omega) (by omega)
  have hir : inP (bankR P) ((P.l : Int) + 1) := inR P (by omega) (by omega)
  obtain ⟨lf, pf, _, _, _⟩ := h.ti.place hP.ok hif
  have hread : readR D (bankR P) B (fromI P j) = (⟨(getT D lf).toArray⟩, 0) := by
    unfold readR
    rw [if_pos hif, hd.off, pf, Int.toNat_natCast]
    rfl
  rw [hread]
  have hT64 := line_size D lf
  have hTw := live_words hd (l := lf) (fun k _ => hm _)
  obtain ⟨T, hT⟩ : ∃ T : ByteArray, T = ⟨(getT D lf).toArray⟩ := ⟨_, rfl⟩
  unfold movZ
  rw [hread]
  rw [← hT] at hT64 hTw ⊢
  simp only
  have hn1 := writeS_n h.ti hd hP.ok hit hT64
  obtain ⟨l1, e1, D1, B1, p1, w1, x1⟩ := write_last h.ti hd hP.ok hit hT64
  rw [w1] at hn1 ⊢
  simp only at hn1 ⊢
  refine ⟨trivial, hn1, ?_⟩
  rw [toI_N] at p1 x1
  by_cases c1 : e1 = 0
  · rcases x1 with ⟨_, v1, y1⟩ | ⟨z1, _⟩ | ⟨z1, _⟩
    · obtain ⟨r1, r2⟩ := h.to hP p1 y1
      have hTT : ∀ i k, i < P.l → k < 8 → slotN P.l j i = fromN P.l j → cntZ (bankR P) B1 D1 ((toN P.l j : Nat) : Int) k = F i k := fun i k hi hk he => by
        rw [show cntZ (bankR P) B1 D1 ((toN P.l j : Nat) : Int) k = wdL T.data.toList k from r2 k hk, hTw k hk, ← h.wd i k hi hk, he, ← fromI_N]
        unfold cntZ
        rw [pf, Int.toNat_natCast]
        rfl
      have hreg8 : ∀ l : Nat, placeP (bankR P) B1 ((P.l : Int) + 1) = (l : Int) → ∀ k, k < 8 → D1.med (8 * l + k) < 18446744073709551616 := fun l hl k hk => by
        have := (y1.cnt h.ti hP.ok (inR P (by omega) (by omega)) p1).1 ((P.l : Int) + 1) hir (by omega) k hk
        unfold cntZ at this
        rw [hl, Int.toNat_natCast] at this
        rw [show D1.med (8 * l + k) = (bare D1).med (8 * l + k) from rfl, this]
        exact hm _
      obtain ⟨hv1, hv2⟩ := pkN_val hP (j + 1) (by omega)
      obtain ⟨l2, e2, D2, B2, p2, w2, x2⟩ := ww_last8 (k := 0) (v := pkN P (j + 1)) r1.ti v1 hreg8 hv2 hP.ok hir (by omega)
      have hn2 : D2.n = D.n := by
        rcases x2 with ⟨_, _, a⟩ | ⟨_, _, a⟩ | ⟨_, _, a, _⟩
        · exact a.n.trans hn1
        · exact a.n.trans hn1
        · exact a.trans hn1
      have w2' : writeWordS (bankR P) ((P.l : Int) + 1) 0 (pkN P (j + 1)) D1 B1 = (e2, D2, B2) := w2
      rw [if_pos c1, w2']
      simp only
      have hold : D1.med (8 * l2 + 0) = pkN P j := by
        have := r1.reg
        unfold cntZ at this
        rw [p2, Int.toNat_natCast] at this
        exact this
      have hF8 : ∀ i, i < 8 → updF (fun i => D1.med (8 * l2 + i)) 0 (pkN P (j + 1)) i < 18446744073709551616 := fun i hi => by
        unfold updF
        split
        · exact hv2
        · exact hreg8 l2 p2 i hi
      have htx : ∀ i, i < 8 → wdL (textU (updF (fun i => D1.med (8 * l2 + i)) 0 (pkN P (j + 1)))).data.toList i = updF (fun i => D1.med (8 * l2 + i)) 0 (pkN P (j + 1)) i := fun i hi => wd_textU8 hF8 i hi
      refine ⟨hn2, ?_⟩
      by_cases c2 : e2 = 0
      · left
        rcases x2 with ⟨_, v2, y2⟩ | ⟨z2, _⟩ | ⟨z2, _⟩
        · obtain ⟨g1, g2, g3⟩ := r1.reg1 hP hTT p2 y2
          refine ⟨c2, v2, g3 ?_⟩
          rw [g1 0 (by omega), htx 0 (by omega)]
          rfl
        · omega
        · omega
      · right
        have hee : e2 = 10 ∨ e2 = 6 := by
          rcases x2 with ⟨a, _⟩ | ⟨a, _⟩ | ⟨a, _⟩
          · omega
          · exact .inl a
          · exact .inr a
        refine ⟨hee, fun L kp hL => ?_⟩
        obtain ⟨_, B'', k1⟩ := x2.boot kp hP.ok (fun H hH => hH.elim .inl fun q => .inr fun i hi => (q i hi).trans (htx i hi)) hL
        obtain ⟨g1, g2, g3⟩ := r1.reg1 hP hTT p2 k1
        rcases g1.2.2 with g | g
        · exact ⟨B'', j, .inl rfl, g2 ((g 0 (by omega)).trans hold)⟩
        · exact ⟨B'', j + 1, .inr rfl, g3 ((g 0 (by omega)).trans rfl)⟩
    · omega
    · omega
  · rw [if_neg c1]
    simp only
    refine ⟨hn1, .inr ⟨?_, fun L kp hL => ?_⟩⟩
    · rcases x1 with ⟨a, _⟩ | ⟨a, _⟩ | ⟨a, _⟩
      · omega
      · exact .inl a
      · exact .inr a
    · obtain ⟨_, B'', k1⟩ := x1.boot kp hP.ok (fun F h => h.mix) hL
      exact ⟨B'', j, .inl rfl, (h.to hP p1 k1).1⟩
end
end Go.Proofs.YtifekejcbhllpaaGreat

/-
  Layer 7: Write and WriteWord of a region, whatever comes of them, in one word.
-/
namespace Go.Proofs.YtifekejcbhllpaaGreat
open Go.RowKit
set_option linter.unusedVariables false

theorem movZ_done {P : PlanR} {D : DevS} {B : BkS} {j : Nat} (h : (movZ P D B j).1 = 0) : ∃ (D1 D2 : DevS) (B1 B2 : BkS), writeS (bankR P) (toI P j) (readR D (bankR P) B (fromI P j)).1 D B = (0, D1, B1) ∧ writeWordS (bankR P) ((P.l : Int) + 1) 0 (pkN P (j + 1)) D1 B1 = (0, D2, B2) ∧ movZ P D B j = (0, D2, B2) := by
  unfold movZ at h ⊢
  obtain ⟨⟨e1, D1, B1⟩, hX⟩ : ∃ X, writeS (bankR P) (toI P j) (readR D (bankR P) B (fromI P j)).1 D B = X := ⟨_, rfl⟩
  rw [hX] at h ⊢
  simp only at h ⊢
  by_cases c : e1 = 0
  · subst c
    rw [if_pos rfl] at h ⊢
    obtain ⟨⟨e2, D2, B2⟩, hY⟩ : ∃ X, writeWordS (bankR P) ((P.l : Int) + 1) 0 (pkN P (j + 1)) D1 B1 = X := ⟨_, rfl⟩
    rw [hY] at h ⊢
    simp only at h
    subst h
    exact ⟨D1, D2, B1, B2, rfl, hY, rfl⟩
  · rw [if_neg c] at h
    exact absurd h c
section
variable {w w' : World} {kb : Nat} {q : BkA} {a : DevA} {P : PlanR} {B : BkS} {m j c cc : Nat} {D : DevS}
/-- What a region's write leaves. -/
def RgPost (w : World) (kb : Nat) (q : BkA) (a : DevA) (P : PlanR) (m cc : Nat) (X : Int × DevS × BkS × Nat × Nat) (e : Ending) (w' : World) : Prop :=
  e = .returned (.int .i64 X.1) ∧ DevIs w' a X.2.1 ∧ Bd X.2.1 (cc + 4200) ∧ RgIs w' kb q a P X.2.2.1 (m + 192) X.2.2.2.1 X.2.2.2.2 ∧ Gr (kb :: (q.all ++ a.all)) w w'
theorem rgwrite_any (i : Nat) (s : ByteArray) (h : RgIs w kb q a P B m j c) (hd : DevIs w a D) (hb : Bd D cc) (hcc : cc < 500000000) (hm : m < 70000000) (hi : i < P.l) (hs : s.size = 64) (hj : j < 4294967295) (hn : (bankR P).a + sizeZ (bankR P) ≤ (D.n : Int))
    (hn1 : P.psi ≤ (c : Int) → (readR D (bankR P) B (fromI P j)).2 = 0 ∧ (writeS (bankR P) (toI P j) (readR D (bankR P) B (fromI P j)).1 D B).2.1.n = D.n ∧ (movZ P D B j).2.1.n = D.n) :
    Calls Tryz.prog 98 #[.pointer (some ⟨kb, 0, none⟩), .int .i64 (i : Int), .string s] w (RgPost w kb q a P m cc (regZ P i (fun z => writeS (bankR P) z s) D B j c)) := by
  unfold regZ RgPost
  by_cases hc : P.psi ≤ (c : Int)
  · obtain ⟨hR, hw1, hw2⟩ := hn1 hc
    rw [if_pos hc]
    by_cases hM : (movZ P D B j).1 = 0
    · rw [if_pos hM]
      obtain ⟨D1, D2, B1, B2, x1, x2, x3⟩ := movZ_done hM
      rw [x3] at hw2 ⊢
      rw [x1] at hw1
      simp only at hw1 hw2 ⊢
      obtain ⟨⟨e3, D3, B3⟩, hY⟩ : ∃ X, writeS (bankR P) (slotJ P (j + 1) i) s D2 B2 = X := ⟨_, rfl⟩
      simp only [hY]
      by_cases he : e3 = 0
      · subst he
        exact rgwrite_mv i s h hd hb (by omega) hm hi hs hc hj hn hw1 hw2 hR x1 x2 hY
      · rw [if_neg he]
        exact rgwrite_mv_bad i s h hd hb hcc hm hi hs hc hj hn hw1 hw2 hR x1 x2 hY he
    · rw [if_neg hM]
      exact rgwrite_mvbad i s h hd hb hcc hm hi hs hc hj hn hw1 hR hM
  · rw [if_neg hc]
    obtain ⟨⟨e3, D3, B3⟩, hY⟩ : ∃ X, writeS (bankR P) (slotJ P j i) s D B = X := ⟨_, rfl⟩
    simp only [hY]
    by_cases he : e3 = 0
    · subst he
      exact rgwrite_st i s h hd hb (by omega) hm hi hs (by omega) hn hY
    · rw [if_neg he]
      exact rgwrite_st_bad i s h hd hb hcc hm hi hs (by omega) hn hY he
theorem rgww_any (i k v : Nat) (h : RgIs w kb q a P B m j c) (hd : DevIs w a D) (hb : Bd D cc) (hcc : cc < 500000000) (hm : m < 70000000) (hi : i < P.l) (hk : k < 8) (hv : v < 18446744073709551616) (hj : j < 4294967295) (hn : (bankR P).a + sizeZ (bankR P) ≤ (D.n : Int))
    (hn1 : P.psi ≤ (c : Int) → (readR D (bankR P) B (fromI P j)).2 = 0 ∧ (writeS (bankR P) (toI P j) (readR D (bankR P) B (fromI P j)).1 D B).2.1.n = D.n ∧ (movZ P D B j).2.1.n = D.n) :
    Calls Tryz.prog 99 #[.pointer (some ⟨kb, 0, none⟩), .int .i64 (i : Int), .int .i64 (k : Int), .int .u64 (v : Int)] w (RgPost w kb q a P m cc (regZ P i (fun z => writeWordS (bankR P) z (k : Int) v) D B j c)) := by
  unfold regZ RgPost
  by_cases hc : P.psi ≤ (c : Int)
  · obtain ⟨hR, hw1, hw2⟩ := hn1 hc
    rw [if_pos hc]
    by_cases hM : (movZ P D B j).1 = 0
    · rw [if_pos hM]
      obtain ⟨D1, D2, B1, B2, x1, x2, x3⟩ := movZ_done hM
      rw [x3] at hw2 ⊢
      rw [x1] at hw1
      simp only at hw1 hw2 ⊢
      obtain ⟨⟨e3, D3, B3⟩, hY⟩ : ∃ X, writeWordS (bankR P) (slotJ P (j + 1) i) (k : Int) v D2 B2 = X := ⟨_, rfl⟩
      simp only [hY]
      by_cases he : e3 = 0
      · subst he
        exact rgww_mv i k v h hd hb (by omega) hm hi hk hv hc hj hn hw1 hw2 hR x1 x2 hY
      · rw [if_neg he]
        exact rgww_mv_bad i k v h hd hb hcc hm hi hk hv hc hj hn hw1 hw2 hR x1 x2 hY he
    · rw [if_neg hM]
      exact rgww_mvbad i k v h hd hb hcc hm hi hk hv hc hj hn hw1 hR hM
  · rw [if_neg hc]
    obtain ⟨⟨e3, D3, B3⟩, hY⟩ : ∃ X, writeWordS (bankR P) (slotJ P j i) (k : Int) v D B = X := ⟨_, rfl⟩
    simp only [hY]
    by_cases he : e3 = 0
    · subst he
      exact rgww_st i k v h hd hb (by omega) hm hi hk hv (by omega) hn hY
    · rw [if_neg he]
      exact rgww_st_bad i k v h hd hb hcc hm hi hk hv (by omega) hn hY he
end
end Go.Proofs.YtifekejcbhllpaaGreat
