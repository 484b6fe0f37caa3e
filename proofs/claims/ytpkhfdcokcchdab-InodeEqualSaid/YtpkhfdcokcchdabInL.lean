/-
  Layer 16: the parts of an inode's bytes, without the program.
-/
import Derived.Test.YtpkhfdcokcchdabInK
namespace Go.Proofs.Ytpkhfdcokcchdab
open Go.RowKit

theorem txt_parts {D : List UInt8} {k : Nat} {l s : Int} {b : List (Int × Int)} {t : ByteArray} {n : Int} (h : D = txtL k l s b t n) :
    D.take 2 = putL n.toNat 2 ∧ (D.drop 2).take 1 = putL k 1 ∧ (D.drop 3).take 2 = putL l.toNat 2 ∧ (D.drop 5).take 4 = putL s.toNat 4 ∧ D.drop 9 = bytP b ++ t.data.toList ∧ 9 ≤ D.length := by
  have d2 : D.drop 2 = putL k 1 ++ (putL l.toNat 2 ++ (putL s.toNat 4 ++ (bytP b ++ t.data.toList))) := by
    rw [h]; unfold txtL; exact List.drop_left' (putL_length _ _)
  have d3 : D.drop 3 = putL l.toNat 2 ++ (putL s.toNat 4 ++ (bytP b ++ t.data.toList)) := by
    rw [show (3 : Nat) = 2 + 1 from rfl, ← List.drop_drop, d2]; exact List.drop_left' (putL_length _ _)
  have d5 : D.drop 5 = putL s.toNat 4 ++ (bytP b ++ t.data.toList) := by
    rw [show (5 : Nat) = 3 + 2 from rfl, ← List.drop_drop, d3]; exact List.drop_left' (putL_length _ _)
  have d9 : D.drop 9 = bytP b ++ t.data.toList := by
    rw [show (9 : Nat) = 5 + 4 from rfl, ← List.drop_drop, d5]; exact List.drop_left' (putL_length _ _)
  refine ⟨?_, ?_, ?_, ?_, d9, ?_⟩
  · rw [h]; unfold txtL; exact List.take_left' (putL_length _ _)
  · rw [d2]; exact List.take_left' (putL_length _ _)
  · rw [d3]; exact List.take_left' (putL_length _ _)
  · rw [d5]; exact List.take_left' (putL_length _ _)
  · rw [h]; unfold txtL; simp [putL_length]; omega
/-- The numbers that Parse reads. -/
theorem txt_nums {D : List UInt8} {k : Nat} {l s : Int} {b : List (Int × Int)} {t : ByteArray} {n : Int} (h : D = txtL k l s b t n) (hr : Right16 k l s b t) (hn0 : 0 ≤ n) (hn1 : n ≤ 65535) :
    ((getL (D.take 2) : Nat) : Int) = n ∧ D[2]? = some (UInt8.ofNat k) ∧ ((getL ((D.drop 3).take 2) : Nat) : Int) = l ∧ ((getL ((D.drop 5).take 4) : Nat) : Int) = s := by
  obtain ⟨h1, h2, h3, h4, h5, h6⟩ := txt_parts h
  obtain ⟨f1, f2, f3, f4, f5, f6, f7⟩ := r16_facts hr
  have e2 : (256 : Nat) ^ 2 = 65536 := by decide
  have e4 : (256 : Nat) ^ 4 = 4294967296 := by decide
  refine ⟨?_, ?_, ?_, ?_⟩
  · rw [h1, getL_putL, e2, Nat.mod_eq_of_lt (by omega)]; omega
  · have : ((D.drop 2).take 1)[0]? = some (UInt8.ofNat k) := by
      rw [h2, putL_succ k 0]
      simp [putL, Nat.mod_eq_of_lt (show k < 256 by omega)]
    rw [List.getElem?_take_of_lt (by omega), List.getElem?_drop] at this
    exact this
  · rw [h3, getL_putL, e2, Nat.mod_eq_of_lt (by omega)]; omega
  · rw [h4, getL_putL, e4, Nat.mod_eq_of_lt (by omega)]; omega
theorem txt_inj {k k' : Nat} {l l' s s' : Int} {b b' : List (Int × Int)} {t t' : ByteArray} {n n' : Int} (hr : Right16 k l s b t) (hr' : Right16 k' l' s' b' t') (hn0 : 0 ≤ n) (hn1 : n ≤ 65535) (hn0' : 0 ≤ n') (hn1' : n' ≤ 65535) (h : txtL k l s b t n = txtL k' l' s' b' t' n') :
    k = k' ∧ l = l' ∧ s = s' ∧ b = b' ∧ t = t' ∧ n = n' := by
  obtain ⟨a1, a2, a3, a4⟩ := txt_nums rfl hr hn0 hn1
  obtain ⟨c1, c2, c3, c4⟩ := txt_nums h hr' hn0' hn1'
  have p := (txt_parts (D := txtL k l s b t n) rfl).2.2.2.2.1
  have q := (txt_parts h).2.2.2.2.1
  obtain ⟨f1, -⟩ := r16_facts hr
  obtain ⟨f1', -⟩ := r16_facts hr'
  have hk : k = k' := by
    rw [a2] at c2
    have := congrArg UInt8.toNat (Option.some.inj c2)
    simp [Nat.mod_eq_of_lt (show k < 256 by omega), Nat.mod_eq_of_lt (show k' < 256 by omega)] at this
    exact this
  subst hk
  rw [p] at q
  have hbt : b = b' ∧ t = t' := by
    have hb := hr.2.2
    have hb' := hr'.2.2
    by_cases k1 : k = 1
    · have x1 : t = ⟨#[]⟩ := bs_nil (by omega)
      have x2 : t' = ⟨#[]⟩ := bs_nil (by omega)
      subst x1 x2
      have q2 : bytP b = bytP b' := by simpa using q
      exact ⟨bytP_inj (r16_facts hr).2.2.2.2.2.2 (r16_facts hr').2.2.2.2.2.2 q2, rfl⟩
    · have x1 : b = [] := List.length_eq_zero_iff.1 (by omega)
      have x2 : b' = [] := List.length_eq_zero_iff.1 (by omega)
      subst x1 x2
      exact ⟨rfl, str_eq (by simpa [bytP] using q)⟩
  exact ⟨rfl, a3.symm.trans c3, a4.symm.trans c4, hbt.1, hbt.2, a1.symm.trans c1⟩

end Go.Proofs.Ytpkhfdcokcchdab
