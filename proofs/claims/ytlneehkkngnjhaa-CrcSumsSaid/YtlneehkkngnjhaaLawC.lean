/-
  The walks of layer 1's other statements: fields of words.
-/
import Derived.Test.YtlneehkkngnjhaaLawB
namespace Go.Proofs.Ytlneehkkngnjhaa
open Go.RowKit

theorem bits_eq {x y : Nat} (h : ∀ i, x.testBit i = y.testBit i) : x = y := Nat.eq_of_testBit_eq h

theorem part1 (w v A K : Nat) (h : okF A K) : fieldN (withN w A K v) A K = fieldN v 0 K := by
  have h0 : okF 0 K := by unfold okF at *; omega
  apply bits_eq
  intro i
  rw [fieldN_testBit _ _ _ h, fieldN_testBit _ _ _ h0, withN_testBit _ _ _ _ h]
  simp only [Int.toNat_natCast, Int.toNat_zero, Nat.zero_add]
  by_cases c : i < K
  · rw [if_pos (by omega)]; congr 2; omega
  · simp [c]
theorem part2 (w v A K : Nat) (h : okF A K) : withN (withN w A K v) A K (fieldN w A K) = w := by
  apply bits_eq
  intro i
  rw [withN_testBit _ _ _ _ h]
  simp only [Int.toNat_natCast]
  split
  · rename_i c
    rw [fieldN_testBit _ _ _ h]
    simp only [Int.toNat_natCast]
    have : i - A < K := by omega
    simp only [this, decide_true, Bool.true_and]
    congr 1; omega
  · rename_i c
    rw [withN_testBit _ _ _ _ h]
    simp only [Int.toNat_natCast]
    rw [if_neg c]
theorem part3 (w v A K : Nat) (h : okF A K) (hA : A ≠ 0) : fieldN (withN w A K v) 0 A = fieldN w 0 A := by
  have h0 : okF 0 A := by unfold okF at *; omega
  apply bits_eq
  intro i
  rw [fieldN_testBit _ _ _ h0, fieldN_testBit _ _ _ h0, withN_testBit _ _ _ _ h]
  simp only [Int.toNat_natCast, Int.toNat_zero, Nat.zero_add]
  by_cases c : i < A
  · rw [if_neg (by omega)]
  · simp [c]
theorem part4 (w v A K : Nat) (h : okF A K) (hA : A + K ≠ 64) : fieldN (withN w A K v) ((A : Int) + K) (64 - (A : Int) - K) = fieldN w ((A : Int) + K) (64 - (A : Int) - K) := by
  have h0 : okF ((A : Int) + K) (64 - (A : Int) - K) := by unfold okF at *; omega
  apply bits_eq
  intro i
  rw [fieldN_testBit _ _ _ h0, fieldN_testBit _ _ _ h0, withN_testBit _ _ _ _ h]
  have e : ((A : Int) + K).toNat = A + K := by omega
  simp only [Int.toNat_natCast, e]
  rw [if_neg (by omega)]

set_option maxHeartbeats 2000000 in
theorem walk_LeParts (a0 a1 : Int) (a2 : List Int) (w0 : (Lit.int .u64 a0).wf = true) (w1 : (Lit.int .u64 a1).wf = true) (l2 : a2.length = 2) (w2 : ∀ x ∈ a2, (Lit.int .u8 x).wf = true) (w : World) :
    Calls Try.prog 6 #[.int .u64 a0, .int .u64 a1, .agg (a2.map (Value.int .u8)).toArray] w fun e w' => e = .returned (.bool true) ∧ Below w.heap.size w w' := by
  obtain ⟨n, rfl, hn⟩ := nat_u64 w0
  obtain ⟨v, rfl, hv⟩ := nat_u64 w1
  match a2, l2, w2 with
  | [x, y], _, w2 =>
    have hx := bounds_u8 (w2 x (by simp))
    have hy := bounds_u8 (w2 y (by simp))
    clear w2 w0 w1
    show Calls Try.prog 6 #[.int .u64 n, .int .u64 v, .agg #[.int .u8 x, .int .u8 y]] w fun e w' => e = .returned (.bool true) ∧ Below w.heap.size w w'
    obtain ⟨A, hA, hA1⟩ : ∃ A : Nat, x % 64 = (A : Int) ∧ A ≤ 63 := ⟨(x % 64).toNat, by omega, by omega⟩
    obtain ⟨K, hK, hK1, hK2⟩ : ∃ K : Nat, 1 + y % (64 - (A : Int)) = (K : Int) ∧ 1 ≤ K ∧ K ≤ 64 - A := by
      have g1 := Int.emod_nonneg y (show (64 - (A : Int)) ≠ 0 by omega)
      have g2 := Int.emod_lt_of_pos y (show 0 < (64 - (A : Int)) by omega)
      exact ⟨(1 + y % (64 - (A : Int))).toNat, by omega, by omega, by omega⟩
    have hok : okF A K := by unfold okF; omega
    have P1 := Lib.hid (part1 n v A K hok)
    have P2 := Lib.hid (part2 n v A K hok)
    have P3 := Lib.hid (part3 n v A K hok)
    have P4 := Lib.hid (part4 n v A K hok)
    clear hok
    have hX := withN_lt n A K v hn
    have hF := fieldN_lt64 n A K
    by_cases c1 : A = 0
    · have hb1 : ((A : Int) == 0) = true := by simp [c1]
      have C1 := Lib.hid c1
      clear c1
      by_cases c2 : A + K = 64
      · have hb2 : ((A : Int) + (K : Int) == 64) = true := by simp; omega
        have C2 := Lib.hid c2
        clear c2
        go_enter Try.func6, Try.ntmps6
        go_wp2_with fail
        refine (with_any n _ _ v _ hn (by omega) (by omega)).mono ?_
        rintro e w1 ⟨rfl, rfl⟩
        generalize withN n A K v = X at *
        go_wp2_with fail
        refine (wakes1_any _).mono ?_
        rintro e w2 ⟨rfl, hb⟩
        go_wp2_with fail
        refine (field_any X _ _ _ hX (by omega) (by omega)).mono ?_
        rintro e w3 ⟨rfl, rfl⟩
        rw [P1.out]
        go_wp2_with fail
        refine (field_any v _ _ _ hv (by omega) (by omega)).mono ?_
        rintro e w4 ⟨rfl, rfl⟩
        go_wp2_with fail
        refine (field_any n _ _ _ hn (by omega) (by omega)).mono ?_
        rintro e w5 ⟨rfl, rfl⟩
        go_wp2_with fail
        refine (with_any X _ _ _ _ hX (by omega) (by omega)).mono ?_
        rintro e w6 ⟨rfl, rfl⟩
        rw [P2.out]
        go_wp2_with fail
        go_ret
        exact ⟨rfl, ((Below.refl _ _).alloc (Nat.le_refl _) _).trans (hb.mono (by simp))⟩
      · have hb2 : ((A : Int) + (K : Int) == 64) = false := by simp; omega
        have C2 := Lib.hid c2
        clear c2
        go_enter Try.func6, Try.ntmps6
        go_wp2_with fail
        refine (with_any n _ _ v _ hn (by omega) (by omega)).mono ?_
        rintro e w1 ⟨rfl, rfl⟩
        generalize withN n A K v = X at *
        go_wp2_with fail
        refine (wakes1_any _).mono ?_
        rintro e w2 ⟨rfl, hb⟩
        go_wp2_with fail
        refine (field_any X _ _ _ hX (by omega) (by omega)).mono ?_
        rintro e w3 ⟨rfl, rfl⟩
        rw [P1.out]
        go_wp2_with fail
        refine (field_any v _ _ _ hv (by omega) (by omega)).mono ?_
        rintro e w4 ⟨rfl, rfl⟩
        go_wp2_with fail
        refine (field_any n _ _ _ hn (by omega) (by omega)).mono ?_
        rintro e w5 ⟨rfl, rfl⟩
        go_wp2_with fail
        refine (with_any X _ _ _ _ hX (by omega) (by omega)).mono ?_
        rintro e w6 ⟨rfl, rfl⟩
        rw [P2.out]
        go_wp2_with fail
        refine (field_any X _ _ _ hX (by omega) (by omega)).mono ?_
        rintro e w9 ⟨rfl, rfl⟩
        rw [P4.out C2.out]
        go_wp2_with fail
        refine (field_any n _ _ _ hn (by omega) (by omega)).mono ?_
        rintro e w10 ⟨rfl, rfl⟩
        go_wp2_with fail
        go_ret
        exact ⟨rfl, ((Below.refl _ _).alloc (Nat.le_refl _) _).trans (hb.mono (by simp))⟩
    · have hb1 : ((A : Int) == 0) = false := by simp [c1]
      have C1 := Lib.hid c1
      clear c1
      by_cases c2 : A + K = 64
      · have hb2 : ((A : Int) + (K : Int) == 64) = true := by simp; omega
        have C2 := Lib.hid c2
        clear c2
        go_enter Try.func6, Try.ntmps6
        go_wp2_with fail
        refine (with_any n _ _ v _ hn (by omega) (by omega)).mono ?_
        rintro e w1 ⟨rfl, rfl⟩
        generalize withN n A K v = X at *
        go_wp2_with fail
        refine (wakes1_any _).mono ?_
        rintro e w2 ⟨rfl, hb⟩
        go_wp2_with fail
        refine (field_any X _ _ _ hX (by omega) (by omega)).mono ?_
        rintro e w3 ⟨rfl, rfl⟩
        rw [P1.out]
        go_wp2_with fail
        refine (field_any v _ _ _ hv (by omega) (by omega)).mono ?_
        rintro e w4 ⟨rfl, rfl⟩
        go_wp2_with fail
        refine (field_any n _ _ _ hn (by omega) (by omega)).mono ?_
        rintro e w5 ⟨rfl, rfl⟩
        go_wp2_with fail
        refine (with_any X _ _ _ _ hX (by omega) (by omega)).mono ?_
        rintro e w6 ⟨rfl, rfl⟩
        rw [P2.out]
        go_wp2_with fail
        refine (field_any X _ _ _ hX (by omega) (by omega)).mono ?_
        rintro e w7 ⟨rfl, rfl⟩
        rw [P3.out C1.out]
        go_wp2_with fail
        refine (field_any n _ _ _ hn (by omega) (by omega)).mono ?_
        rintro e w8 ⟨rfl, rfl⟩
        go_wp2_with fail
        go_ret
        exact ⟨rfl, ((Below.refl _ _).alloc (Nat.le_refl _) _).trans (hb.mono (by simp))⟩
      · have hb2 : ((A : Int) + (K : Int) == 64) = false := by simp; omega
        have C2 := Lib.hid c2
        clear c2
        go_enter Try.func6, Try.ntmps6
        go_wp2_with fail
        refine (with_any n _ _ v _ hn (by omega) (by omega)).mono ?_
        rintro e w1 ⟨rfl, rfl⟩
        generalize withN n A K v = X at *
        go_wp2_with fail
        refine (wakes1_any _).mono ?_
        rintro e w2 ⟨rfl, hb⟩
        go_wp2_with fail
        refine (field_any X _ _ _ hX (by omega) (by omega)).mono ?_
        rintro e w3 ⟨rfl, rfl⟩
        rw [P1.out]
        go_wp2_with fail
        refine (field_any v _ _ _ hv (by omega) (by omega)).mono ?_
        rintro e w4 ⟨rfl, rfl⟩
        go_wp2_with fail
        refine (field_any n _ _ _ hn (by omega) (by omega)).mono ?_
        rintro e w5 ⟨rfl, rfl⟩
        go_wp2_with fail
        refine (with_any X _ _ _ _ hX (by omega) (by omega)).mono ?_
        rintro e w6 ⟨rfl, rfl⟩
        rw [P2.out]
        go_wp2_with fail
        refine (field_any X _ _ _ hX (by omega) (by omega)).mono ?_
        rintro e w7 ⟨rfl, rfl⟩
        rw [P3.out C1.out]
        go_wp2_with fail
        refine (field_any n _ _ _ hn (by omega) (by omega)).mono ?_
        rintro e w8 ⟨rfl, rfl⟩
        go_wp2_with fail
        refine (field_any X _ _ _ hX (by omega) (by omega)).mono ?_
        rintro e w9 ⟨rfl, rfl⟩
        rw [P4.out C2.out]
        go_wp2_with fail
        refine (field_any n _ _ _ hn (by omega) (by omega)).mono ?_
        rintro e w10 ⟨rfl, rfl⟩
        go_wp2_with fail
        go_ret
        exact ⟨rfl, ((Below.refl _ _).alloc (Nat.le_refl _) _).trans (hb.mono (by simp))⟩

end Go.Proofs.Ytlneehkkngnjhaa
