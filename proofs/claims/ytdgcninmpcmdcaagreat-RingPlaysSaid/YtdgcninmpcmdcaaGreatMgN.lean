/-
  MgN: LawA, LawB.
-/
import Derived.Test.YtdgcninmpcmdcaaGreatRefA

/-
  The walks of layer 1's statements: each law's Go function returns true.
-/
namespace Go.Proofs.YtdgcninmpcmdcaaGreat
open Go.RowKit

theorem bcell {W w1 : World} (hb : Below W.heap.size W w1) : (∀ b o, b < W.heap.size → w1.cell? ⟨b, o, none⟩ = W.cell? ⟨b, o, none⟩) ∧ (∀ b o, b < W.heap.size → w1.frozen? ⟨b, o, none⟩ = W.frozen? ⟨b, o, none⟩) :=
  ⟨fun b o h => hb.cell (p := ⟨b, o, none⟩) h, fun b o h => hb.frozen (p := ⟨b, o, none⟩) h⟩
theorem nat_u64 {a : Int} (h : (Lit.int .u64 a).wf = true) : ∃ n : Nat, a = n ∧ n < 18446744073709551616 := by
  have := bounds_u64 h
  exact ⟨a.toNat, by omega, by omega⟩

end Go.Proofs.YtdgcninmpcmdcaaGreat

/-
  The walks of layer 1's other statements.
-/
namespace Go.Proofs.YtdgcninmpcmdcaaGreat
open Go.RowKit

theorem two_pow_8 (k : Nat) : (2 : Nat) ^ (8 * k) = 256 ^ k := by rw [Nat.pow_mul]
theorem low_eq (n k : Nat) (h1 : 1 ≤ k) (h2 : k ≤ 7) : fieldN n 0 (8 * (k : Int)) = n % 256 ^ k := by
  unfold fieldN
  rw [if_pos (by unfold okF; omega)]
  have e : (8 * (k : Int)).toNat = 8 * k := by omega
  rw [e, two_pow_8]; simp
theorem high_eq (n k : Nat) (hn : n < 18446744073709551616) (h1 : 1 ≤ k) (h2 : k ≤ 7) : fieldN n (8 * (k : Int)) (64 - 8 * (k : Int)) = n / 256 ^ k := by
  unfold fieldN
  rw [if_pos (by unfold okF; omega)]
  have e : (8 * (k : Int)).toNat = 8 * k := by omega
  have e' : (64 - 8 * (k : Int)).toNat = 8 * (8 - k) := by omega
  rw [e, e', two_pow_8, two_pow_8]
  apply Nat.mod_eq_of_lt
  have p : (256 : Nat) ^ k * 256 ^ (8 - k) = 256 ^ 8 := by rw [← Nat.pow_add]; congr 1; omega
  have q : 0 < (256 : Nat) ^ k := Nat.pow_pos (by omega)
  rw [Nat.div_lt_iff_lt_mul q, Nat.mul_comm, p]
  omega

/-- The pieces of a number's bytes. -/
theorem joins (n k : Nat) (hk : k ≤ 8) : putL (n % 256 ^ k) k ++ putL (n / 256 ^ k) (8 - k) = putL n 8 := by
  rw [putL_mod n k k (Nat.le_refl _), ← putL_append]; congr 1; omega
theorem get_put8 (n : Nat) (hn : n < 18446744073709551616) (m : List UInt8) : getL ((putL n 8 ++ m).take 8) = n := by
  rw [List.take_append_of_le_length (by simp [putL_length]), List.take_of_length_le (by simp [putL_length]), getL_putL]
  exact Nat.mod_eq_of_lt hn

end Go.Proofs.YtdgcninmpcmdcaaGreat
