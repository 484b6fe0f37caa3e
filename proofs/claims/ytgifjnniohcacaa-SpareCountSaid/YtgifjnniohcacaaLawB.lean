/-
  The walks of layer 1's other statements.
-/
import Derived.Test.YtgifjnniohcacaaLawA
namespace Go.Proofs.Ytgifjnniohcacaa
open Go.RowKit

theorem two_pow_8 (k : Nat) : (2 : Nat) ^ (8 * k) = 256 ^ k := by rw [Nat.pow_mul]
theorem low_eq (n k : Nat) (h1 : 1 ≤ k) (h2 : k ≤ 7) : fieldN n 0 (8 * (k : Int)) = n % 256 ^ k := by
  unfold fieldN
  rw [if_pos (by unfold okF; omega)]
  have e : (8 * (k : Int)).toNat = 8 * k := by omega
  rw [e, two_pow_8]; simp
theorem high_eq (n k : Nat) (hn : n < 18446744073709551616) (h1 : 1 ≤ k) (h2 : k ≤ 7) : fieldN n (8 * (k : Int)) (64 - 8 * (k : Int)) = n / 256 ^ k := by
  unfold fieldN
  rw [if_pos (by unfold okF; omega)]
  have e : (8 * (k : Int)).toNat = 8 * k := by omega
  have e' : (64 - 8 * (k : Int)).toNat = 8 * (8 - k) := by omega
  rw [e, e', two_pow_8, two_pow_8]
  apply Nat.mod_eq_of_lt
  have p : (256 : Nat) ^ k * 256 ^ (8 - k) = 256 ^ 8 := by rw [← Nat.pow_add]; congr 1; omega
  have q : 0 < (256 : Nat) ^ k := Nat.pow_pos (by omega)
  rw [Nat.div_lt_iff_lt_mul q, Nat.mul_comm, p]
  omega

/-- The pieces of a number's bytes. -/
theorem joins (n k : Nat) (hk : k ≤ 8) : putL (n % 256 ^ k) k ++ putL (n / 256 ^ k) (8 - k) = putL n 8 := by
  rw [putL_mod n k k (Nat.le_refl _), ← putL_append]; congr 1; omega
theorem get_put8 (n : Nat) (hn : n < 18446744073709551616) (m : List UInt8) : getL ((putL n 8 ++ m).take 8) = n := by
  rw [List.take_append_of_le_length (by simp [putL_length]), List.take_of_length_le (by simp [putL_length]), getL_putL]
  exact Nat.mod_eq_of_lt hn

end Go.Proofs.Ytgifjnniohcacaa
