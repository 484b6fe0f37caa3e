/-
  Plain lemmas on numbers, bits and bytes, without any program: they hold of all naturals.
-/
import Derived.WalkKit

namespace Go.Proofs.YtifekejcbhllpaaGreat

/-- Is there such a field of a word? -/
def okF (a k : Int) : Prop := 0 ≤ a ∧ a ≤ 63 ∧ 1 ≤ k ∧ k ≤ 64 - a
instance (a k : Int) : Decidable (okF a k) := by unfold okF; infer_instance
def maskN (a k : Int) : Nat := if okF a k then (2 ^ k.toNat - 1) * 2 ^ a.toNat else 0
def fieldN (n : Nat) (a k : Int) : Nat := if okF a k then n / 2 ^ a.toNat % 2 ^ k.toNat else 0
def withN (n : Nat) (a k : Int) (v : Nat) : Nat :=
  if okF a k then (n / 2 ^ (a.toNat + k.toNat)) * 2 ^ (a.toNat + k.toNat) + (v % 2 ^ k.toNat) * 2 ^ a.toNat + n % 2 ^ a.toNat else n

theorem maskN_testBit (a k : Int) (h : okF a k) (i : Nat) : (maskN a k).testBit i = (decide (a.toNat ≤ i) && decide (i < a.toNat + k.toNat)) := by
  unfold maskN
  rw [if_pos h, Nat.testBit_mul_two_pow, Nat.testBit_two_pow_sub_one]
  by_cases h1 : a.toNat ≤ i
  · simp [h1]; omega
  · simp [h1]
theorem maskN_lt (a k : Int) : maskN a k < 18446744073709551616 := by
  unfold maskN
  split
  · rename_i h
    obtain ⟨h0, h1, h2, h3⟩ := h
    have e : (2 ^ k.toNat - 1) * 2 ^ a.toNat < 2 ^ 64 := by
      have p : 2 ^ k.toNat * 2 ^ a.toNat ≤ 2 ^ 64 := by
        rw [← Nat.pow_add]; exact Nat.pow_le_pow_right (by omega) (by omega)
      have q : 0 < 2 ^ a.toNat := Nat.two_pow_pos _
      have r : 0 < 2 ^ k.toNat := Nat.two_pow_pos _
      rw [Nat.sub_mul]
      omega
    omega
  · omega
theorem fieldN_testBit (n : Nat) (a k : Int) (h : okF a k) (i : Nat) : (fieldN n a k).testBit i = (decide (i < k.toNat) && n.testBit (a.toNat + i)) := by
  unfold fieldN
  rw [if_pos h, Nat.testBit_mod_two_pow, Nat.testBit_div_two_pow, Nat.add_comm]
theorem fieldN_eq_and (n : Nat) (a k : Int) (h : okF a k) : (n &&& maskN a k) / 2 ^ a.toNat = fieldN n a k := by
  apply Nat.eq_of_testBit_eq
  intro i
  rw [Nat.testBit_div_two_pow, Nat.testBit_and, maskN_testBit a k h, fieldN_testBit n a k h]
  have e1 : i + a.toNat = a.toNat + i := by omega
  rw [e1]
  by_cases h1 : i < k.toNat
  · simp [h1]
  · simp [h1]
theorem withN_testBit (n : Nat) (a k : Int) (v : Nat) (h : okF a k) (i : Nat) :
    (withN n a k v).testBit i = if a.toNat ≤ i ∧ i < a.toNat + k.toNat then v.testBit (i - a.toNat) else n.testBit i := by
  unfold withN
  rw [if_pos h]
  generalize a.toNat = A
  generalize k.toNat = K
  have hA : n % 2 ^ A < 2 ^ A := Nat.mod_lt _ (Nat.two_pow_pos _)
  have hK : v % 2 ^ K < 2 ^ K := Nat.mod_lt _ (Nat.two_pow_pos _)
  have e : n / 2 ^ (A + K) * 2 ^ (A + K) + v % 2 ^ K * 2 ^ A + n % 2 ^ A = 2 ^ A * (2 ^ K * (n / 2 ^ (A + K)) + v % 2 ^ K) + n % 2 ^ A := by
    rw [Nat.pow_add]
    simp only [Nat.mul_add, Nat.mul_comm, Nat.mul_assoc]
  rw [e, Nat.testBit_two_pow_mul_add _ hA, Nat.testBit_two_pow_mul_add _ hK]
  by_cases h1 : i < A
  · rw [if_pos h1, if_neg (by omega), Nat.testBit_mod_two_pow]; simp [h1]
  · rw [if_neg h1]
    by_cases h2 : i - A < K
    · rw [if_pos h2, if_pos (by omega), Nat.testBit_mod_two_pow]; simp [h2]
    · rw [if_neg h2, if_neg (by omega), Nat.testBit_div_two_pow]
      congr 1; omega
theorem withN_lt (n : Nat) (a k : Int) (v : Nat) (hn : n < 18446744073709551616) : withN n a k v < 18446744073709551616 := by
  by_cases h : okF a k
  · have : withN n a k v < 2 ^ 64 := by
      apply Nat.lt_pow_two_of_testBit
      intro i hi
      rw [withN_testBit n a k v h]
      obtain ⟨h0, h1, h2, h3⟩ := h
      rw [if_neg (by omega)]
      exact Nat.testBit_lt_two_pow (Nat.lt_of_lt_of_le (show n < 2 ^ 64 by omega) (Nat.pow_le_pow_right (by omega) hi))
    omega
  · unfold withN; rw [if_neg h]; exact hn
theorem withN_eq_or (n : Nat) (a k : Int) (v : Nat) (h : okF a k) (hn : n < 18446744073709551616) :
    (n &&& (18446744073709551615 - maskN a k)) ||| (v * 2 ^ a.toNat % 18446744073709551616 &&& maskN a k) = withN n a k v := by
  apply Nat.eq_of_testBit_eq
  intro i
  have e64 : (18446744073709551616 : Nat) = 2 ^ 64 := rfl
  have hm : maskN a k < 2 ^ 64 := maskN_lt a k
  have e63 : (18446744073709551615 - maskN a k) = 2 ^ 64 - (maskN a k + 1) := by omega
  rw [Nat.testBit_or, Nat.testBit_and, Nat.testBit_and, e63, Nat.testBit_two_pow_sub_succ hm, e64, Nat.testBit_mod_two_pow, Nat.testBit_mul_two_pow, maskN_testBit a k h, withN_testBit n a k v h]
  obtain ⟨h0, h1, h2, h3⟩ := h
  by_cases hi : i < 64
  · by_cases c1 : a.toNat ≤ i <;> by_cases c2 : i < a.toNat + k.toNat <;> simp [hi, c1, c2]
  · have : n.testBit i = false := Nat.testBit_lt_two_pow (Nat.lt_of_lt_of_le (show n < 2 ^ 64 by omega) (Nat.pow_le_pow_right (by omega) (by omega)))
    have c2 : ¬ i < a.toNat + k.toNat := by omega
    simp [hi, c2, this]

/-- 'at & 63' of an int. -/
theorem and63 (x : Int) (h0 : 0 ≤ x) (h1 : x ≤ 63) : bits .and .i64 x 63 = x := by
  obtain ⟨n, rfl⟩ := Int.eq_ofNat_of_zero_le h0
  have hn : n < 64 := by omega
  have e : (BitVec.ofInt 64 (n : Int) &&& BitVec.ofInt 64 63).toNat = n := by
    rw [BitVec.toNat_and, BitVec.ofInt_natCast, BitVec.toNat_ofNat]
    have h63 : (BitVec.ofInt 64 63).toNat = 2 ^ 6 - 1 := by decide
    rw [h63, Nat.and_two_pow_sub_one_eq_mod]
    omega
  show IntKind.i64.wrap ((BitVec.ofInt 64 (n : Int) &&& BitVec.ofInt 64 63).toNat : Int) = _
  rw [e]
  exact IntWalk.i64_in _ (by omega)
theorem and63_bounds (x : Int) : 0 ≤ bits .and .i64 x 63 ∧ bits .and .i64 x 63 ≤ 63 := by
  have h63 : (BitVec.ofInt 64 63).toNat = 2 ^ 6 - 1 := by decide
  have e : (BitVec.ofInt 64 x &&& BitVec.ofInt 64 63).toNat < 64 := by
    rw [BitVec.toNat_and, h63, Nat.and_two_pow_sub_one_eq_mod]
    exact Nat.mod_lt _ (by decide)
  have f : bits .and .i64 x 63 = ((BitVec.ofInt 64 x &&& BitVec.ofInt 64 63).toNat : Int) := by
    show IntKind.i64.wrap ((BitVec.ofInt 64 x &&& BitVec.ofInt 64 63).toNat : Int) = _
    exact IntWalk.i64_in _ (by omega)
  rw [f]; omega

/-! ### Bytes and numbers -/
/-- The number of bytes, the lowest first. -/
def getL : List UInt8 → Nat
  | [] => 0
  | b :: l => b.toNat + 256 * getL l
/-- The first k bytes of a number, the lowest first. -/
def putL (n : Nat) : Nat → List UInt8
  | 0 => []
  | k + 1 => UInt8.ofNat (n % 256) :: putL (n / 256) k
/-- A size that is asked for, made one of 0 to 8. -/
def clamp8 (k : Int) : Nat := min k.toNat 8

theorem getL_lt (l : List UInt8) : getL l < 256 ^ l.length := by
  induction l with
  | nil => simp [getL]
  | cons b l ih =>
    have := b.toNat_lt
    simp only [getL, List.length_cons, Nat.pow_succ]
    omega
theorem getL_append (l m : List UInt8) : getL (l ++ m) = getL l + 256 ^ l.length * getL m := by
  induction l with
  | nil => simp [getL]
  | cons b l ih =>
    simp only [getL, List.cons_append, List.length_cons, Nat.pow_succ, ih]
    rw [Nat.mul_add, ← Nat.mul_assoc, Nat.mul_comm 256 (256 ^ l.length)]
    omega
theorem putL_length (n k : Nat) : (putL n k).length = k := by
  induction k generalizing n with
  | zero => rfl
  | succ k ih => simp [putL, ih]
theorem getL_putL (n k : Nat) : getL (putL n k) = n % 256 ^ k := by
  induction k generalizing n with
  | zero => simp [putL, getL, Nat.mod_one]
  | succ k ih =>
    simp only [putL, getL, ih]
    have h : (UInt8.ofNat (n % 256)).toNat = n % 256 := by simp
    rw [h, Nat.pow_succ, Nat.mul_comm (256 ^ k), Nat.mod_mul]
theorem putL_getElem (n k i : Nat) (h : i < (putL n k).length) : (putL n k)[i] = UInt8.ofNat (n / 256 ^ i % 256) := by
  induction k generalizing n i with
  | zero => simp [putL] at h
  | succ k ih =>
    cases i with
    | zero => simp [putL]
    | succ i =>
      simp only [putL, List.getElem_cons_succ]
      rw [ih, Nat.div_div_eq_div_mul, Nat.pow_succ, Nat.mul_comm]
theorem putL_mod (n k j : Nat) (h : k ≤ j) : putL (n % 256 ^ j) k = putL n k := by
  apply List.ext_getElem
  · simp [putL_length]
  · intro i h1 h2
    rw [putL_getElem, putL_getElem]
    have hi : i < k := by simpa [putL_length] using h2
    congr 1
    obtain ⟨d, rfl⟩ : ∃ d, j = i + 1 + d := ⟨j - (i + 1), by omega⟩
    rw [Nat.pow_add, Nat.pow_succ, Nat.mul_assoc, Nat.mod_mul_right_div_self, Nat.mod_mul_right_mod]
theorem putL_getL (l : List UInt8) : putL (getL l) l.length = l := by
  induction l with
  | nil => rfl
  | cons b l ih =>
    have hb := b.toNat_lt
    simp only [getL, List.length_cons, putL]
    have e1 : (b.toNat + 256 * getL l) % 256 = b.toNat := by omega
    have e2 : (b.toNat + 256 * getL l) / 256 = getL l := by omega
    rw [e1, e2, ih]; simp
/-- One byte more, and one round of the loop that joins bytes by 'or'. -/
theorem getL_take_succ (l : List UInt8) (i : Nat) (h : i < l.length) : getL (l.take (i + 1)) = getL (l.take i) + l[i].toNat * 256 ^ i := by
  rw [List.take_succ_eq_append_getElem h, getL_append]
  simp [getL, Nat.min_eq_left (Nat.le_of_lt h), Nat.mul_comm]
theorem getL_or (l : List UInt8) (i : Nat) (h : i < l.length) : getL (l.take i) ||| l[i].toNat * 2 ^ (8 * i) = getL (l.take (i + 1)) := by
  rw [getL_take_succ l i h]
  have hl := getL_lt (l.take i)
  have e : (l.take i).length = i := by simp; omega
  rw [e] at hl
  have p : (256 : Nat) ^ i = 2 ^ (8 * i) := by rw [Nat.pow_mul]
  rw [p] at hl ⊢
  rw [Nat.or_comm, Nat.mul_comm, ← Nat.two_pow_add_eq_or_of_lt hl]
  omega
theorem getL_take_lt (l : List UInt8) (i : Nat) (hi : i ≤ 8) : getL (l.take i) < 18446744073709551616 := by
  have hl := getL_lt (l.take i)
  have e : (l.take i).length ≤ 8 := by simp; omega
  have : (256 : Nat) ^ (l.take i).length ≤ 256 ^ 8 := Nat.pow_le_pow_right (by omega) e
  omega

/-! ### Bit by bit -/
end Go.Proofs.YtifekejcbhllpaaGreat
