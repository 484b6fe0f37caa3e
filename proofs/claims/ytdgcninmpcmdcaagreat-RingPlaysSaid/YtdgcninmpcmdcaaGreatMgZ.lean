/-
  MgZ: RgM, RgN, RgO.
-/
import Derived.Test.YtdgcninmpcmdcaaGreatMgS
import Derived.Test.YtdgcninmpcmdcaaGreatMgX

/-
  Layer 7: what a region refuses: no such line, no such word, no such length.
-/
namespace Go.Proofs.YtdgcninmpcmdcaaGreat
open Go.RowKit
set_option linter.unusedVariables false

section
variable {w w' : World} {kb : Nat} {q : BkA} {a : DevA} {P : PlanR} {B : BkS} {m j c : Nat}
theorem rfind_out (i : Int) (h : RgIs w kb q a P B m j c) (hi : i < 0 ∨ (P.l : Int) ≤ i) : Calls Tryz.prog 48 #[.pointer (some ⟨kb, 0, none⟩), .int .i64 i] w fun e w' => e = .returned (.int .i64 3) ∧ w' = w := by
  have c1 := h.c1
  clear h
  by_cases ik : i < 0
  · clear hi
    go_enter Tryz.func48, Tryz.ntmps48
    go_wp2_with fail
    go_ret
    exact ⟨rfl, rfl⟩
  · have ik2 : (P.l : Int) ≤ i := by omega
    clear hi
    go_enter Tryz.func48, Tryz.ntmps48
    go_wp2_with fail
    go_ret
    exact ⟨rfl, rfl⟩
theorem change_out (i : Int) (fv : Value) (h : RgIs w kb q a P B m j c) (hi : i < 0 ∨ (P.l : Int) ≤ i) : Calls Tryz.prog 37 #[.pointer (some ⟨kb, 0, none⟩), .int .i64 i, fv] w fun e w' => e = .returned (.int .i64 3) ∧ w' = w := by
  have HF := Lib.hid (rfind_out i h hi)
  clear h hi
  go_enter Tryz.func37, Tryz.ntmps37
  go_wp2_with fail
  refine HF.out.mono ?_
  rintro e w1 ⟨rfl, rfl⟩
  go_wp2_with fail
  go_ret
  exact ⟨rfl, rfl⟩
set_option maxRecDepth 100000 in
theorem rgwrite_len (i : Int) (s : ByteArray) (hs : s.size ≠ 64) (hm : s.size ≤ maxLen) : Calls Tryz.prog 9 #[.pointer (some ⟨kb, 0, none⟩), .int .i64 i, .string s] w fun e w' => e = .returned (.int .i64 2) ∧ Gr [] w w' := by
  have HG := Lib.hid (((Gr.refl [] w).alloc (Obj.cells #[.pointer (some ⟨kb, 0, none⟩)] 28)).alloc (Obj.cells #[.string s] 9))
  have hs2 : ¬ (s.size : Int) = 64 := by omega
  unfold maxLen at hm
  go_enter Tryz.func9, Tryz.ntmps9
  go_wp2_with fail
  go_ret
  exact ⟨rfl, HG.out⟩
set_option maxRecDepth 100000 in
theorem rgwrite_out (i : Int) (s : ByteArray) (h : RgIs w kb q a P B m j c) (hs : s.size = 64) (hi : i < 0 ∨ (P.l : Int) ≤ i) : Calls Tryz.prog 9 #[.pointer (some ⟨kb, 0, none⟩), .int .i64 i, .string s] w fun e w' => e = .returned (.int .i64 3) ∧ Gr [] w w' := by
  have g1 := ((Gr.refl [] w).alloc (Obj.cells #[.pointer (some ⟨kb, 0, none⟩)] 28)).alloc (Obj.cells #[.string s] 9)
  have HG := Lib.hid g1
  have HC := Lib.hid (fun fv => change_out i fv (h.gr0 g1) hi)
  clear h hi g1
  go_enter Tryz.func9, Tryz.ntmps9
  go_wp2_with fail
  refine (HC.out _).mono ?_
  rintro e w1 ⟨rfl, rfl⟩
  go_wp2_with fail
  go_ret
  exact ⟨rfl, HG.out⟩
set_option maxRecDepth 100000 in
theorem rgww_arg (i k : Int) (v : Nat) (hk : k < 0 ∨ 8 ≤ k) : Calls Tryz.prog 12 #[.pointer (some ⟨kb, 0, none⟩), .int .i64 i, .int .i64 k, .int .u64 (v : Int)] w fun e w' => e = .returned (.int .i64 2) ∧ Gr [] w w' := by
  have HG := Lib.hid ((((Gr.refl [] w).alloc (Obj.cells #[.pointer (some ⟨kb, 0, none⟩)] 28)).alloc (Obj.cells #[.int .i64 k] 3)).alloc (Obj.cells #[.int .u64 (v : Int)] 37))
  by_cases ik : k < 0
  · clear hk
    go_enter Tryz.func12, Tryz.ntmps12
    go_wp2_with fail
    go_ret
    exact ⟨rfl, HG.out⟩
  · have ik2 : 8 ≤ k := by omega
    clear hk
    go_enter Tryz.func12, Tryz.ntmps12
    go_wp2_with fail
    go_ret
    exact ⟨rfl, HG.out⟩
set_option maxRecDepth 100000 in
theorem rgww_out (i k : Int) (v : Nat) (h : RgIs w kb q a P B m j c) (h0 : 0 ≤ k) (h8 : k < 8) (hi : i < 0 ∨ (P.l : Int) ≤ i) : Calls Tryz.prog 12 #[.pointer (some ⟨kb, 0, none⟩), .int .i64 i, .int .i64 k, .int .u64 (v : Int)] w fun e w' => e = .returned (.int .i64 3) ∧ Gr [] w w' := by
  have g1 := (((Gr.refl [] w).alloc (Obj.cells #[.pointer (some ⟨kb, 0, none⟩)] 28)).alloc (Obj.cells #[.int .i64 k] 3)).alloc (Obj.cells #[.int .u64 (v : Int)] 37)
  have HG := Lib.hid g1
  have HC := Lib.hid (fun fv => change_out i fv (h.gr0 g1) hi)
  have ik3 : ¬ k < 0 := by omega
  have ik4 : ¬ 8 ≤ k := by omega
  clear h hi g1
  go_enter Tryz.func12, Tryz.ntmps12
  go_wp2_with fail
  refine (HC.out _).mono ?_
  rintro e w1 ⟨rfl, rfl⟩
  go_wp2_with fail
  go_ret
  exact ⟨rfl, HG.out⟩
theorem rgread_out (i : Int) (h : RgIs w kb q a P B m j c) (hi : i < 0 ∨ (P.l : Int) ≤ i) : Calls Tryz.prog 13 #[.pointer (some ⟨kb, 0, none⟩), .int .i64 i] w fun e w' => e = .returned (.tuple #[.string ⟨#[]⟩, .int .i64 3]) ∧ w' = w := by
  have HF := Lib.hid (rfind_out i h hi)
  clear h hi
  go_enter Tryz.func13, Tryz.ntmps13
  go_wp2_with fail
  refine HF.out.mono ?_
  rintro e w1 ⟨rfl, rfl⟩
  go_wp2_with fail
  exact bodyPost_ret (v := .tuple #[.string ⟨#[]⟩, .int .i64 3]) (by simp [results, Tryz.results13, go_sem]) rfl ⟨rfl, rfl⟩
end
end Go.Proofs.YtdgcninmpcmdcaaGreat

/-
  Layer 7, pure: the slots of lines: two lines are never at one; what a move does to them.
-/
namespace Go.Proofs.YtdgcninmpcmdcaaGreat
set_option linter.unusedVariables false

theorem mod_two {x l : Nat} (h : x < 2 * l) : x % l = if x < l then x else x - l := by
  split
  · exact Nat.mod_eq_of_lt (by omega)
  · rw [Nat.mod_eq_sub_mod (by omega)]
    exact Nat.mod_eq_of_lt (by omega)
theorem slotN_le {l j i : Nat} (h1 : 1 ≤ l) : slotN l j i ≤ l := by
  unfold slotN
  have := Nat.mod_lt (i + j / (l + 1) % l) (show 0 < l by omega)
  split <;> omega
theorem slotN_inj {l j i i2 : Nat} (h1 : 1 ≤ l) (hi : i < l) (hi2 : i2 < l) (h : slotN l j i = slotN l j i2) : i = i2 := by
  unfold slotN at h
  have hS := Nat.mod_lt (j / (l + 1)) (show 0 < l by omega)
  generalize j / (l + 1) % l = S at *
  have a := mod_two (x := i + S) (l := l) (by omega)
  have b := mod_two (x := i2 + S) (l := l) (by omega)
  have c : (i + S) % l = (i2 + S) % l := by
    split at h <;> split at h <;> omega
  rw [a, b] at c
  split at c <;> split at c <;> omega
def fromN (l j : Nat) : Nat := if 0 < l - j % (l + 1) then l - j % (l + 1) - 1 else l
def toN (l j : Nat) : Nat := l - j % (l + 1)
theorem slotN_step {l j i : Nat} (h1 : 1 ≤ l) : slotN l (j + 1) i = if slotN l j i = fromN l j then toN l j else slotN l j i := by
  have ht := Nat.mod_lt j (show 0 < l + 1 by omega)
  by_cases c : j % (l + 1) + 1 < l + 1
  · obtain ⟨a, b⟩ := div_next j (l + 1) (by omega) c
    unfold slotN fromN toN
    rw [a, b]
    have hr := Nat.mod_lt (i + j / (l + 1) % l) (show 0 < l by omega)
    generalize (i + j / (l + 1) % l) % l = r at *
    generalize j % (l + 1) = t at *
    rw [if_pos (show 0 < l - t by omega)]
    by_cases d : r < l - t
    · rw [if_pos d]
      by_cases e : r < l - (t + 1)
      · rw [if_pos e, if_neg (by omega)]
      · rw [if_neg e, if_pos (by omega)]; omega
    · rw [if_neg d, if_neg (by omega), if_neg (by omega)]
  · obtain ⟨a, b⟩ := div_wrap j (l + 1) (by omega) c
    unfold slotN fromN toN
    rw [a, b]
    have ht2 : j % (l + 1) = l := by omega
    rw [ht2]
    have hr := Nat.mod_lt (i + j / (l + 1) % l) (show 0 < l by omega)
    have e : (i + (j / (l + 1) + 1) % l) % l = ((i + j / (l + 1) % l) % l + 1) % l := by
      generalize j / (l + 1) = J
      rw [Nat.add_mod_mod, Nat.mod_add_mod, ← Nat.add_assoc, show i + J % l + 1 = (i + 1) + J % l by omega, Nat.add_mod_mod, show i + 1 + J = i + J + 1 by omega]
    rw [e]
    generalize (i + j / (l + 1) % l) % l = r at *
    rw [if_neg (show ¬ r < l - l by omega), if_neg (show ¬ 0 < l - l by omega)]
    have f := mod_two (x := r + 1) (l := l) (by omega)
    by_cases d : r + 1 < l
    · rw [if_pos d] at f
      rw [f, if_pos (by omega), if_neg (by omega)]
    · rw [if_neg d] at f
      rw [f, if_pos (by omega), if_pos (by omega)]
      omega
theorem fromI_N (P : PlanR) (j : Nat) : fromI P j = ((fromN P.l j : Nat) : Int) := by
  unfold fromI fromN
  rw [gAt_N]
  by_cases c : 0 < P.l - j % (P.l + 1)
  · rw [if_pos (by omega), if_pos c]; omega
  · rw [if_neg (by omega), if_neg c]
theorem toI_N (P : PlanR) (j : Nat) : toI P j = ((toN P.l j : Nat) : Int) := by
  unfold toI toN
  rw [gAt_N]
end Go.Proofs.YtdgcninmpcmdcaaGreat

/-
  Layer 7, pure: what the lines of a region have, behind a write and behind a move.
-/
namespace Go.Proofs.YtdgcninmpcmdcaaGreat
set_option linter.unusedVariables false

theorem slotN_ne_to {l j i : Nat} : slotN l j i ≠ toN l j := by
  unfold slotN toN
  split <;> omega
/-- Word k of line i. -/
def wdR (P : PlanR) (D : DevS) (j i k : Nat) : Nat := D.med (8 * lnN P ((slotN P.l j i : Nat) : Int) + k)
section
variable {P : PlanR} {D E : DevS} {j : Nat}
theorem lnN_inj (hP : OkR P) {z z2 : Int} (h : 0 ≤ z) (h2 : 0 ≤ z2) (e : lnN P z = lnN P z2) : z = z2 := by
  have a := lnN_val hP h
  have b := lnN_val hP h2
  omega
theorem cont_line (hP : OkR P) {i : Nat} {f : Nat → Nat} (hi : i < P.l) (hw : ∀ k, k < 8 → E.med (8 * lnN P (slotJ P j i) + k) = f k) (hm : ∀ x, (x < 8 * lnN P (slotJ P j i) ∨ 8 * lnN P (slotJ P j i) + 8 ≤ x) → E.med x = D.med x) :
    ∀ i2 k, i2 < P.l → k < 8 → wdR P E j i2 k = if i2 = i then f k else wdR P D j i2 k := by
  intro i2 k h2 hk
  rw [slotJ_N P j i hP.l1] at hw hm
  unfold wdR
  by_cases c : i2 = i
  · subst c
    rw [if_pos rfl]
    exact hw k hk
  · rw [if_neg c]
    have hne : lnN P ((slotN P.l j i2 : Nat) : Int) ≠ lnN P ((slotN P.l j i : Nat) : Int) := fun e => c (slotN_inj (j := j) hP.l1 h2 hi (by have := lnN_inj hP (by omega) (by omega) e; omega))
    exact hm _ (by omega)
theorem cont_word (hP : OkR P) {i k v : Nat} (hi : i < P.l) (hk : k < 8) (hw : E.med (8 * lnN P (slotJ P j i) + k) = v) (hm : ∀ x, x ≠ 8 * lnN P (slotJ P j i) + k → E.med x = D.med x) :
    ∀ i2 k2, i2 < P.l → k2 < 8 → wdR P E j i2 k2 = if i2 = i ∧ k2 = k then v else wdR P D j i2 k2 := by
  intro i2 k2 h2 hk2
  rw [slotJ_N P j i hP.l1] at hw hm
  unfold wdR
  by_cases c : i2 = i
  · subst c
    by_cases d : k2 = k
    · subst d
      rw [if_pos ⟨rfl, rfl⟩]
      exact hw
    · rw [if_neg (fun e => d e.2)]
      exact hm _ (by omega)
  · rw [if_neg (fun e => c e.1)]
    have hne : lnN P ((slotN P.l j i2 : Nat) : Int) ≠ lnN P ((slotN P.l j i : Nat) : Int) := fun e => c (slotN_inj (j := j) hP.l1 h2 hi (by have := lnN_inj hP (by omega) (by omega) e; omega))
    exact hm _ (by omega)
theorem cont_move (hP : OkR P) (h1 : ∀ k, k < 8 → E.med (8 * lnN P (toI P j) + k) = D.med (8 * lnN P (fromI P j) + k))
    (h2 : ∀ x, (x < 8 * lnN P (toI P j) ∨ 8 * lnN P (toI P j) + 8 ≤ x) → x ≠ 8 * lnN P ((P.l : Int) + 1) → E.med x = D.med x) :
    ∀ i k, i < P.l → k < 8 → wdR P E (j + 1) i k = wdR P D j i k := by
  intro i k hi hk
  rw [toI_N, fromI_N] at h1
  rw [toI_N] at h2
  unfold wdR
  rw [slotN_step hP.l1]
  by_cases c : slotN P.l j i = fromN P.l j
  · rw [if_pos c, c]
    exact h1 k hk
  · rw [if_neg c]
    have hle := slotN_le (j := j) (i := i) hP.l1
    have hnt := slotN_ne_to (l := P.l) (j := j) (i := i)
    have e1 : lnN P ((slotN P.l j i : Nat) : Int) ≠ lnN P ((toN P.l j : Nat) : Int) := fun e => hnt (by have := lnN_inj hP (by omega) (by omega) e; omega)
    have e2 : lnN P ((slotN P.l j i : Nat) : Int) ≠ lnN P ((P.l : Int) + 1) := fun e => by have := lnN_inj hP (by omega) (by omega) e; omega
    exact h2 _ (by omega) (by omega)
theorem cont_fresh (hP : OkR P) (h : ∀ x, x ≠ 8 * lnN P ((P.l : Int) + 1) → E.med x = 0) : ∀ i k, i < P.l → k < 8 → wdR P E 0 i k = 0 := by
  intro i k hi hk
  have hle := slotN_le (j := 0) (i := i) hP.l1
  have e2 : lnN P ((slotN P.l 0 i : Nat) : Int) ≠ lnN P ((P.l : Int) + 1) := fun e => by have := lnN_inj hP (by omega) (by omega) e; omega
  exact h _ (by omega)
end
end Go.Proofs.YtdgcninmpcmdcaaGreat
