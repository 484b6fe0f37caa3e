/-
  Plain lemmas on numbers, bits and bytes, without any program: they hold of all naturals.
-/
import Derived.WalkKit

namespace Go.Proofs.YtefiapmgdjlnnaaDoor

/-- Is there such a field of a word? -/
def okF (a k : Int) : Prop := 0 ≤ a ∧ a ≤ 63 ∧ 1 ≤ k ∧ k ≤ 64 - a
instance (a k : Int) : Decidable (okF a k) := by unfold okF; infer_instance
/-! ### Bytes and numbers -/
/-- The number of bytes, the lowest first. -/
def getL : List UInt8 → Nat
  | [] => 0
  | b :: l => b.toNat + 256 * getL l
/-- The first k bytes of a number, the lowest first. -/
def putL (n : Nat) : Nat → List UInt8
  | 0 => []
  | k + 1 => UInt8.ofNat (n % 256) :: putL (n / 256) k
/-- A size that is asked for, made one of 0 to 8. -/
def clamp8 (k : Int) : Nat := min k.toNat 8

theorem getL_lt (l : List UInt8) : getL l < 256 ^ l.length := by
  induction l with
  | nil => simp [getL]
  | cons b l ih =>
    have := b.toNat_lt
    simp only [getL, List.length_cons, Nat.pow_succ]
    omega
theorem getL_append (l m : List UInt8) : getL (l ++ m) = getL l + 256 ^ l.length * getL m := by
  induction l with
  | nil => simp [getL]
  | cons b l ih =>
    simp only [getL, List.cons_append, List.length_cons, Nat.pow_succ, ih]
    rw [Nat.mul_add, ← Nat.mul_assoc, Nat.mul_comm 256 (256 ^ l.length)]
    omega
theorem putL_length (n k : Nat) : (putL n k).length = k := by
  induction k generalizing n with
  | zero => rfl
  | succ k ih => simp [putL, ih]
theorem putL_append (n a b : Nat) : putL n (a + b) = putL n a ++ putL (n / 256 ^ a) b := by
  induction a generalizing n with
  | zero => simp [putL]
  | succ a ih =>
    rw [Nat.add_right_comm]
    simp only [putL, List.cons_append, ih, List.cons.injEq, List.append_cancel_left_eq, true_and]
    rw [Nat.div_div_eq_div_mul, Nat.pow_succ, Nat.mul_comm]
theorem putL_succ (n k : Nat) : putL n (k + 1) = putL n k ++ [UInt8.ofNat (n / 256 ^ k % 256)] := by
  rw [putL_append]; rfl
theorem putL_getElem (n k i : Nat) (h : i < (putL n k).length) : (putL n k)[i] = UInt8.ofNat (n / 256 ^ i % 256) := by
  induction k generalizing n i with
  | zero => simp [putL] at h
  | succ k ih =>
    cases i with
    | zero => simp [putL]
    | succ i =>
      simp only [putL, List.getElem_cons_succ]
      rw [ih, Nat.div_div_eq_div_mul, Nat.pow_succ, Nat.mul_comm]
theorem putL_getL (l : List UInt8) : putL (getL l) l.length = l := by
  induction l with
  | nil => rfl
  | cons b l ih =>
    have hb := b.toNat_lt
    simp only [getL, List.length_cons, putL]
    have e1 : (b.toNat + 256 * getL l) % 256 = b.toNat := by omega
    have e2 : (b.toNat + 256 * getL l) / 256 = getL l := by omega
    rw [e1, e2, ih]; simp
/-- One byte more, and one round of the loop that joins bytes by 'or'. -/
theorem getL_take_succ (l : List UInt8) (i : Nat) (h : i < l.length) : getL (l.take (i + 1)) = getL (l.take i) + l[i].toNat * 256 ^ i := by
  rw [List.take_succ_eq_append_getElem h, getL_append]
  simp [getL, Nat.min_eq_left (Nat.le_of_lt h), Nat.mul_comm]
theorem getL_or (l : List UInt8) (i : Nat) (h : i < l.length) : getL (l.take i) ||| l[i].toNat * 2 ^ (8 * i) = getL (l.take (i + 1)) := by
  rw [getL_take_succ l i h]
  have hl := getL_lt (l.take i)
  have e : (l.take i).length = i := by simp; omega
  rw [e] at hl
  have p : (256 : Nat) ^ i = 2 ^ (8 * i) := by rw [Nat.pow_mul]
  rw [p] at hl ⊢
  rw [Nat.or_comm, Nat.mul_comm, ← Nat.two_pow_add_eq_or_of_lt hl]
  omega
theorem getL_take_lt (l : List UInt8) (i : Nat) (hi : i ≤ 8) : getL (l.take i) < 18446744073709551616 := by
  have hl := getL_lt (l.take i)
  have e : (l.take i).length ≤ 8 := by simp; omega
  have : (256 : Nat) ^ (l.take i).length ≤ 256 ^ 8 := Nat.pow_le_pow_right (by omega) e
  omega

/-! ### Bit by bit -/
end Go.Proofs.YtefiapmgdjlnnaaDoor
