/-
  Plain lemmas on guarded words: one bit another one.
-/
import Derived.Test.YtdgcninmpcmdcaaGreatCrc
namespace Go.Proofs.YtdgcninmpcmdcaaGreat
open Go.RowKit

theorem mod_eq_of_bits {a b k : Nat} (h : ∀ i, i < k → a.testBit i = b.testBit i) : a % 2 ^ k = b % 2 ^ k := by
  apply Nat.eq_of_testBit_eq
  intro i
  rw [Nat.testBit_mod_two_pow, Nat.testBit_mod_two_pow]
  by_cases c : i < k
  · simp [c, h i c]
  · simp [c]
theorem putL_eq_of_bits {a b k : Nat} (h : ∀ i, i < 8 * k → a.testBit i = b.testBit i) : putL a k = putL b k := by
  have e : a % 256 ^ k = b % 256 ^ k := by
    rw [← two_pow_8]; exact mod_eq_of_bits h
  rw [← putL_mod a k k (Nat.le_refl _), ← putL_mod b k k (Nat.le_refl _), e]
theorem putL_split (a q : Nat) (hq : q < 6) : putL a 6 = putL a q ++ UInt8.ofNat (a / 256 ^ q % 256) :: putL (a / 256 ^ (q + 1)) (5 - q) := by
  have e : (6 : Nat) = q + (1 + (5 - q)) := by omega
  rw [e, putL_append, putL_append]
  simp only [putL, Nat.pow_one, List.singleton_append]
  rw [Nat.div_div_eq_div_mul, Nat.pow_succ]

theorem guard_bit (n : Nat) (i : Nat) (hi : i < 64) : (guardN n).testBit i = if 48 ≤ i then (n16 (check n)).testBit (i - 48) else n.testBit i := by
  unfold guardN
  rw [withN_testBit _ _ _ _ (by unfold okF; omega)]
  have e1 : (48 : Int).toNat = 48 := rfl
  have e2 : (16 : Int).toNat = 16 := rfl
  rw [e1, e2]
  by_cases c : 48 ≤ i
  · rw [if_pos (by omega), if_pos c]
  · rw [if_neg (by omega), if_neg c]
theorem check_congr {a b : Nat} (h : putL a 6 = putL b 6) : check a = check b := by unfold check; rw [h]
theorem n16_inj {x y : BitVec 16} (h : n16 x = n16 y) : x = y := BitVec.eq_of_toNat_eq h

/-- A guarded word with one bit another one is none. -/
theorem guard_tells (n : Nat) (_hn : n < 18446744073709551616) (j : Nat) (hj : j < 64) : guardN (guardN n ^^^ 2 ^ j) ≠ guardN n ^^^ 2 ^ j := by
  intro e
  have hb : ∀ i, (guardN n ^^^ 2 ^ j).testBit i = ((guardN n).testBit i ^^ decide (j = i)) := by
    intro i; rw [Nat.testBit_xor, Nat.testBit_two_pow]
  generalize hW : guardN n ^^^ 2 ^ j = W at *
  by_cases c : 48 ≤ j
  · have hp : putL W 6 = putL n 6 := by
      apply putL_eq_of_bits
      intro i hi
      rw [hb i, guard_bit n i (by omega), if_neg (by omega)]
      have : ¬ j = i := by omega
      simp [this]
    have h1 := guard_bit W j hj
    rw [e, if_pos c, check_congr hp, hb j, guard_bit n j hj, if_pos c] at h1
    simp at h1
  · have h16 : n16 (check W) = n16 (check n) := by
      apply Nat.eq_of_testBit_eq
      intro i
      by_cases hi : i < 16
      · have h1 := guard_bit W (i + 48) (by omega)
        rw [e, if_pos (by omega), hb, guard_bit n (i + 48) (by omega), if_pos (by omega)] at h1
        have : ¬ j = i + 48 := by omega
        simp only [this, decide_false, Bool.xor_false, Nat.add_sub_cancel] at h1
        exact h1.symm
      · have l1 : n16 (check W) < 2 ^ i := Nat.lt_of_lt_of_le (n16_lt _) (Nat.pow_le_pow_right (n := 2) (by omega) (show 16 ≤ i by omega))
        have l2 : n16 (check n) < 2 ^ i := Nat.lt_of_lt_of_le (n16_lt _) (Nat.pow_le_pow_right (n := 2) (by omega) (show 16 ≤ i by omega))
        rw [Nat.testBit_lt_two_pow l1, Nat.testBit_lt_two_pow l2]
    have hs : sum16 (putL W 6) = sum16 (putL n 6) := BitVec.not_inj.1 (n16_inj h16)
    obtain ⟨q, hq⟩ : ∃ q, q = j / 8 := ⟨_, rfl⟩
    have hq6 : q < 6 := by omega
    have low : ∀ i, i < 48 → W.testBit i = (n.testBit i ^^ decide (j = i)) := by
      intro i hi
      rw [hb i, guard_bit n i (by omega), if_neg (by omega)]
    have p1 : putL W q = putL n q := by
      apply putL_eq_of_bits
      intro i hi
      rw [low i (by omega)]
      have : ¬ j = i := by omega
      simp [this]
    have p2 : putL (W / 256 ^ (q + 1)) (5 - q) = putL (n / 256 ^ (q + 1)) (5 - q) := by
      apply putL_eq_of_bits
      intro i hi
      rw [← two_pow_8, Nat.testBit_div_two_pow, Nat.testBit_div_two_pow, low _ (by omega)]
      have : ¬ j = i + 8 * (q + 1) := by omega
      simp [this]
    rw [putL_split W q hq6, putL_split n q hq6, p1, p2] at hs
    have hne : UInt8.ofNat (W / 256 ^ q % 256) ≠ UInt8.ofNat (n / 256 ^ q % 256) := by
      intro he
      have he := congrArg UInt8.toNat he
      simp at he
      have t := congrArg (fun x => Nat.testBit x (j - 8 * q)) he
      have e256 : (256 : Nat) = 2 ^ 8 := rfl
      rw [← two_pow_8] at t
      rw [e256, Nat.testBit_mod_two_pow, Nat.testBit_mod_two_pow, Nat.testBit_div_two_pow, Nat.testBit_div_two_pow, low _ (by omega)] at t
      have h1 : j - 8 * q < 8 := by omega
      have h2 : j - 8 * q + 8 * q = j := by omega
      rw [h2] at t
      simp [h1] at t
    exact sum16_tells _ _ _ _ hne hs

/-- One byte of a text another one. -/
theorem set_tells (l : List UInt8) (p : Nat) (hp : p < l.length) (by_ : UInt8) (hb : by_ ≠ 0) :
    sum16 l ≠ sum16 (l.set p (l[p] ^^^ by_)) ∧ sum32 l ≠ sum32 (l.set p (l[p] ^^^ by_)) := by
  have hne : l[p] ≠ l[p] ^^^ by_ := by
    intro e
    have h := congrArg (fun x => l[p] ^^^ x) e
    simp only [UInt8.xor_self] at h
    rw [← UInt8.xor_assoc, UInt8.xor_self, UInt8.zero_xor] at h
    exact hb h.symm
  have e1 : l = l.take p ++ l[p] :: l.drop (p + 1) := by
    rw [← List.drop_eq_getElem_cons hp, List.take_append_drop]
  have e2 : l.set p (l[p] ^^^ by_) = l.take p ++ (l[p] ^^^ by_) :: l.drop (p + 1) := by
    rw [List.set_eq_take_append_cons_drop, if_pos hp]
  constructor
  · rw [e2]
    intro e
    exact sum16_tells (l.take p) (l.drop (p + 1)) _ _ hne (by rw [← e1]; exact e)
  · rw [e2]
    intro e
    exact sum32_tells (l.take p) (l.drop (p + 1)) _ _ hne (by rw [← e1]; exact e)

end Go.Proofs.YtdgcninmpcmdcaaGreat
