/-
  The walks of layer 1's other statements.
-/
import Derived.Test.YtlneehkkngnjhaaLawA
namespace Go.Proofs.Ytlneehkkngnjhaa
open Go.RowKit

theorem two_pow_8 (k : Nat) : (2 : Nat) ^ (8 * k) = 256 ^ k := by rw [Nat.pow_mul]
theorem low_eq (n k : Nat) (h1 : 1 ≤ k) (h2 : k ≤ 7) : fieldN n 0 (8 * (k : Int)) = n % 256 ^ k := by
  unfold fieldN
  rw [if_pos (by unfold okF; omega)]
  have e : (8 * (k : Int)).toNat = 8 * k := by omega
  rw [e, two_pow_8]; simp
theorem high_eq (n k : Nat) (hn : n < 18446744073709551616) (h1 : 1 ≤ k) (h2 : k ≤ 7) : fieldN n (8 * (k : Int)) (64 - 8 * (k : Int)) = n / 256 ^ k := by
  unfold fieldN
  rw [if_pos (by unfold okF; omega)]
  have e : (8 * (k : Int)).toNat = 8 * k := by omega
  have e' : (64 - 8 * (k : Int)).toNat = 8 * (8 - k) := by omega
  rw [e, e', two_pow_8, two_pow_8]
  apply Nat.mod_eq_of_lt
  have p : (256 : Nat) ^ k * 256 ^ (8 - k) = 256 ^ 8 := by rw [← Nat.pow_add]; congr 1; omega
  have q : 0 < (256 : Nat) ^ k := Nat.pow_pos (by omega)
  rw [Nat.div_lt_iff_lt_mul q, Nat.mul_comm, p]
  omega

/-- The pieces of a number's bytes. -/
theorem joins (n k : Nat) (hk : k ≤ 8) : putL (n % 256 ^ k) k ++ putL (n / 256 ^ k) (8 - k) = putL n 8 := by
  rw [putL_mod n k k (Nat.le_refl _), ← putL_append]; congr 1; omega
theorem get_put8 (n : Nat) (hn : n < 18446744073709551616) (m : List UInt8) : getL ((putL n 8 ++ m).take 8) = n := by
  rw [List.take_append_of_le_length (by simp [putL_length]), List.take_of_length_le (by simp [putL_length]), getL_putL]
  exact Nat.mod_eq_of_lt hn

set_option maxHeartbeats 1000000 in
theorem walk_LeJoins (a0 a1 : Int) (a2 : ByteArray) (w0 : (Lit.int .u64 a0).wf = true) (w1 : (Lit.int .u8 a1).wf = true) (w2 : a2.size ≤ maxLen) (x2 : a2.size ≤ reachBytes) (w : World) :
    Calls Try.prog 7 #[.int .u64 a0, .int .u8 a1, .string a2] w fun e w' => e = .returned (.bool true) ∧ Below w.heap.size w w' := by
  obtain ⟨n, rfl, hn⟩ := nat_u64 w0
  have hb := bounds_u8 w1
  obtain ⟨k, hk, hk1, hk2⟩ : ∃ k : Nat, 1 + a1 % 7 = (k : Int) ∧ 1 ≤ k ∧ k ≤ 7 := ⟨(1 + a1 % 7).toNat, by omega, by omega, by omega⟩
  clear w0 w1
  go_enter Try.func7, Try.ntmps7
  have hlow := low_eq n k hk1 hk2
  have hhigh := high_eq n k hn hk1 hk2
  have hl64 := fieldN_lt64 n 0 (8 * (k : Int))
  have hh64 := fieldN_lt64 n (8 * (k : Int)) (64 - 8 * (k : Int))
  have HLOW := Lib.hid hlow
  have HHIGH := Lib.hid hhigh
  clear hlow hhigh
  go_wp2_with fail
  refine (field_any n _ _ _ hn (by omega) (by omega)).mono ?_
  rintro e v1 ⟨rfl, rfl⟩
  go_wp2_with fail
  refine (field_any n _ _ _ hn (by omega) (by omega)).mono ?_
  rintro e v2 ⟨rfl, rfl⟩
  generalize fieldN n 0 (8 * (k : Int)) = low at *
  generalize fieldN n (8 * (k : Int)) (64 - 8 * (k : Int)) = high at *
  go_wp2_with fail
  refine (put_any low _ _ hl64).mono ?_
  rintro e v3 ⟨rfl, hb3⟩
  rw [show clamp8 (k : Int) = k by unfold clamp8; omega]
  go_wp2_with fail
  refine (put_any high _ _ hh64).mono ?_
  rintro e v4 ⟨rfl, hb4⟩
  rw [show clamp8 (8 - (k : Int)) = 8 - k by unfold clamp8; omega]
  have hL1 := putL_length low k
  have hL2 := putL_length high (8 - k)
  have hs : (ByteArray.mk (putL low k).toArray ++ ByteArray.mk (putL high (8 - k)).toArray : ByteArray) = ByteArray.mk (putL n 8).toArray := by
    apply ByteArray.ext
    rw [ByteArray.data_append]
    simp only [List.append_toArray]
    rw [HLOW.out, HHIGH.out, joins n k (by omega)]
  have HS := Lib.hid hs
  clear hs
  go_wp2_with fail
  rw [HS.out]
  clear hL1 hL2
  have hL8 : (ByteArray.mk (putL n 8).toArray).size = 8 := by simp [ByteArray.size, putL_length]
  have hx : a2.size ≤ 140737488351232 := x2
  refine (wakes1_any _).mono ?_
  rintro e v5 ⟨rfl, hb5⟩
  go_wp2_with fail
  refine (put_any n _ _ hn).mono ?_
  rintro e v6 ⟨rfl, hb6⟩
  rw [show clamp8 8 = 8 from rfl]
  generalize hS : ByteArray.mk (putL n 8).toArray = S at *
  have HSS := Lib.hid hS
  clear hS
  go_wp2_with fail
  refine (get_any _ _ (by rw [ByteArray.size_append]; unfold maxLen; omega)).mono ?_
  rintro e v7 ⟨rfl, rfl⟩
  have eg : getL (List.take 8 (S ++ a2).data.toList) = n := by
    rw [← HSS.out, ByteArray.data_append]
    simp only [Array.toList_append]
    exact get_put8 n hn _
  rw [eg]
  clear eg
  go_wp2_with fail
  refine (get_any _ _ (by rw [ByteArray.size_extract]; unfold maxLen; omega)).mono ?_
  rintro e v8 ⟨rfl, rfl⟩
  have e1 : getL (List.take 8 (S.extract 0 k).data.toList) = low := by
    rw [← HSS.out]
    simp only [ByteArray.data_extract, Array.toList_extract, List.extract_eq_take_drop, List.drop_zero, Nat.sub_zero]
    rw [List.take_of_length_le (by simp [putL_length]; omega), putL_take, Nat.min_eq_left (by omega), getL_putL, HLOW.out]
  rw [e1]
  clear e1
  go_wp2_with fail
  refine (get_any _ _ (by rw [ByteArray.size_extract]; unfold maxLen; omega)).mono ?_
  rintro e v8 ⟨rfl, rfl⟩
  have e2 : getL (List.take 8 (S.extract k S.size).data.toList) = high := by
    have h8 : S.size = 8 := hL8
    rw [h8, ← HSS.out]
    simp only [ByteArray.data_extract, Array.toList_extract, List.extract_eq_take_drop]
    have hd : List.drop k (putL n 8) = putL (n / 256 ^ k) (8 - k) := by
      rw [show (8 : Nat) = k + (8 - k) by omega, putL_append, List.drop_left' (putL_length _ _)]
      congr 1; omega
    rw [hd, List.take_of_length_le (by simp [putL_length]), List.take_of_length_le (by simp [putL_length]), getL_putL, ← HHIGH.out]
    have hp : high < 256 ^ (8 - k) := by
      rw [HHIGH.out, Nat.div_lt_iff_lt_mul (Nat.pow_pos (by omega)), ← Nat.pow_add, show 8 - k + k = 8 by omega]
      omega
    exact Nat.mod_eq_of_lt hp
  rw [hL8] at e2
  rw [e2]
  clear e2
  go_wp2_with fail
  go_ret
  refine ⟨rfl, ?_⟩
  have k3 := hb3.size
  have k4 := hb4.size
  have k5 := hb5.size
  exact ((hb3.trans (hb4.mono (by omega))).trans (hb5.mono (by omega))).trans (hb6.mono (by omega))

end Go.Proofs.Ytlneehkkngnjhaa
