/-
  Contracts of the reference functions of layer 1: each returns what the plain functions compute.
-/
import Derived.Test.YtefiapmgdjlnnaaDoorDnAa
import Derived.Test.YtefiapmgdjlnnaaDoorDnAb
import Derived.Test.YtefiapmgdjlnnaaDoorDnAc
import Derived.Test.YtefiapmgdjlnnaaDoorDnAd
import Derived.Test.YtefiapmgdjlnnaaDoorDnAe
import Derived.Test.YtefiapmgdjlnnaaDoorDnAf
import Derived.Test.YtefiapmgdjlnnaaDoorDnAg
import Derived.Test.YtefiapmgdjlnnaaDoorDnAh
import Derived.Test.YtefiapmgdjlnnaaDoorDnAi
import Derived.Test.YtefiapmgdjlnnaaDoorDqAb
import Derived.Test.YtefiapmgdjlnnaaDoorRows
import Derived.WalkKit
import Derived.Handy
import Derived.Lib.Hide

namespace Go.Proofs.YtefiapmgdjlnnaaDoor
open Go.RowKit

set_option maxHeartbeats 400000 in
theorem bit_any (n : Nat) (i : Int) (w : World) (hn : n < 18446744073709551616) (h0 : 0 ≤ i) (h1 : i ≤ 64) :
    Calls Tryd.prog 83 #[.int .u64 n, .int .i64 i] w fun e w' => e = .returned (.int .u64 (bitN n i.toNat : Nat)) ∧ w = w' := by
  obtain ⟨m, rfl⟩ := Int.eq_ofNat_of_zero_le h0
  rw [Int.toNat_natCast]
  go_enter Tryd.func83, Tryd.ntmps83
  go_wp2
  go_loop [0, 5] (fun q i => ∃ j : Nat, j ≤ m ∧ i = .int .i64 j ∧ q = .int .u64 (n / 2 ^ j : Nat)) (fun _ i => m - (intOf i).toNat)
  case atStart => exact ⟨0, by omega, rfl, by simp⟩
  case round =>
    obtain ⟨j, hj, rfl, rfl⟩ := hrel
    have hq : n / 2 ^ j < 18446744073709551616 := Nat.lt_of_le_of_lt (Nat.div_le_self _ _) hn
    have hd : ((n / 2 ^ j : Nat) : Int) / 2 = ((n / 2 ^ (j + 1) : Nat) : Int) := by
      rw [Nat.pow_succ, ← Nat.div_div_eq_div_mul]; rfl
    have hm : ((n / 2 ^ j : Nat) : Int) % 2 = ((bitN n j : Nat) : Int) := rfl
    have HD := Lib.hid hd
    have HM := Lib.hid hm
    clear hd hm
    by_cases hlt : j < m
    · generalize n / 2 ^ j = q at *
      go_wp2
      go_round
      case rel => exact ⟨j + 1, by omega, by go_num, by rw [HD.out]⟩
      case measure => simp [intOf]; omega
    · obtain rfl : j = m := by omega
      generalize n / 2 ^ j = q at *
      go_wp2
      go_ret
      exact ⟨by rw [← HM.out] <;> rfl, rfl⟩

set_option maxHeartbeats 400000 in
theorem may_yes (a k : Int) (w : World) (h : okF a k) :
    Calls Tryd.prog 82 #[.int .i64 a, .int .i64 k] w fun e w' => e = .returned (.bool true) ∧ w = w' := by
  obtain ⟨h0, h1, h2, h3⟩ := h
  go_enter Tryd.func82, Tryd.ntmps82
  go_wp2
  go_ret
  exact ⟨rfl, rfl⟩
set_option maxHeartbeats 400000 in
theorem may_no (a k : Int) (w : World) (h : ¬ okF a k) :
    Calls Tryd.prog 82 #[.int .i64 a, .int .i64 k] w fun e w' => e = .returned (.bool false) ∧ w = w' := by
  have hh : a < 0 ∨ (0 ≤ a ∧ 63 < a) ∨ (0 ≤ a ∧ a ≤ 63 ∧ k < 1) ∨ (0 ≤ a ∧ a ≤ 63 ∧ 1 ≤ k ∧ 64 - a < k) := by
    unfold okF at h; omega
  clear h
  rcases hh with h | ⟨h, h1⟩ | ⟨h, h1, h2⟩ | ⟨h, h1, h2, h3⟩
  all_goals
    go_enter Tryd.func82, Tryd.ntmps82
    go_wp2
    go_ret
    first | exact ⟨rfl, rfl⟩ | exact ⟨by simp; omega, rfl⟩

/-- The high j bits of a field, and the number above the bits still to come. -/
def topF (n : Nat) (m j : Nat) : Nat := n / 2 ^ m % 2 ^ j
theorem topF_step (n m j : Nat) (hj : j < 64) : IntKind.u64.wrap (IntKind.u64.wrap (2 * ((topF n (m + 1) j : Nat) : Int)) + ((bitN n m : Nat) : Int)) = ((topF n m (j + 1) : Nat) : Int) := by
  have e : 2 * topF n (m + 1) j + bitN n m = topF n m (j + 1) := by
    unfold topF bitN
    rw [Nat.pow_succ 2 m, ← Nat.div_div_eq_div_mul]
    exact bit_up _ _
  have hl : topF n m (j + 1) < 2 ^ (j + 1) := Nat.mod_lt _ (Nat.two_pow_pos _)
  have hl2 : (2 : Nat) ^ (j + 1) ≤ 2 ^ 64 := Nat.pow_le_pow_right (by omega) (by omega)
  rw [IntWalk.u64_in (2 * _) (by omega), IntWalk.u64_in _ (by omega)]
  omega
set_option maxHeartbeats 400000 in
theorem rfield_any (n : Nat) (a k : Int) (w : World) (hn : n < 18446744073709551616) :
    Calls Tryd.prog 68 #[.int .u64 n, .int .i64 a, .int .i64 k] w fun e w' => e = .returned (.int .u64 (fieldN n a k : Nat)) ∧ w = w' := by
  by_cases h : okF a k
  · have hh := Lib.hid h
    have hfin : fieldN n a k = topF n a.toNat k.toNat := by unfold fieldN; rw [if_pos h]; rfl
    have HFIN := Lib.hid hfin
    clear hfin
    obtain ⟨h0, h1, h2, h3⟩ := h
    obtain ⟨A, rfl⟩ := Int.eq_ofNat_of_zero_le h0
    obtain ⟨K, rfl⟩ := Int.eq_ofNat_of_zero_le (show 0 ≤ k by omega)
    rw [Int.toNat_natCast, Int.toNat_natCast] at HFIN
    go_enter Tryd.func68, Tryd.ntmps68
    go_wp2_with (go_at_call 82; refine (may_yes _ _ _ hh.out).mono ?_; rintro e w' ⟨rfl, rfl⟩)
    go_loop [8, 9] (fun q i => ∃ j : Nat, j ≤ K ∧ i = .int .i64 j ∧ q = .int .u64 (topF n (A + K - j) j : Nat)) (fun _ i => K - (intOf i).toNat)
    case atStart => exact ⟨0, by omega, rfl, by simp [topF, Nat.mod_one]⟩
    case round =>
      obtain ⟨j, hj, rfl, rfl⟩ := hrel
      by_cases hlt : j < K
      · have hs := topF_step n (A + K - 1 - j) j (by omega)
        rw [show A + K - 1 - j + 1 = A + K - j by omega] at hs
        have HS := Lib.hid hs
        clear hs
        go_wp2_with (go_at_call 83; refine (bit_any _ _ _ hn (by omega) (by omega)).mono ?_; rintro e w' ⟨rfl, rfl⟩)
        go_round
        case rel => exact ⟨j + 1, by omega, by go_num, by rw [HS.out, show A + K - (j + 1) = A + K - 1 - j by omega]⟩
        case measure => simp [intOf]; omega
      · obtain rfl : j = K := by omega
        rw [show A + j - j = A by omega]
        go_wp2
        go_ret
        exact ⟨by rw [HFIN.out] <;> rfl, rfl⟩
  · have hfin : fieldN n a k = 0 := by unfold fieldN; rw [if_neg h]
    rw [hfin]
    clear hfin
    have hh := Lib.hid h
    clear h
    go_enter Tryd.func68, Tryd.ntmps68
    go_wp2_with (go_at_call 82; refine (may_no _ _ _ hh.out).mono ?_; rintro e w' ⟨rfl, rfl⟩)
    go_rounds 1
    go_ret
    exact ⟨rfl, rfl⟩

end Go.Proofs.YtefiapmgdjlnnaaDoor
