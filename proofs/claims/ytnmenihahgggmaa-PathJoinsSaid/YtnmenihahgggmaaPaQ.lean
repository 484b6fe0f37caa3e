/-
  Layer 18: strings.Cut at a slash.
-/
import Derived.Test.YtnmenihahgggmaaPaL
import Derived.Shelf.RegionOpenPlain
import Derived.Laws.Strings3
namespace Go.Proofs.Ytnmenihahgggmaa
open Go.RowKit Go.Shelf

theorem ext_left (a b : List UInt8) : (bsL (a ++ b)).extract 0 a.length = bsL a := by
  apply bsL_of
  rw [ByteArray.data_extract, Array.toList_extract]
  show ((a ++ b).drop 0).take (a.length - 0) = a
  simp
theorem ext_right (a b : List UInt8) (c : UInt8) : (bsL (a ++ c :: b)).extract (a.length + 1) (a ++ c :: b).length = bsL b := by
  apply bsL_of
  rw [ByteArray.data_extract, Array.toList_extract]
  show ((a ++ c :: b).drop (a.length + 1)).take ((a ++ c :: b).length - (a.length + 1)) = b
  rw [show a ++ c :: b = (a ++ [c]) ++ b by simp, show a.length + 1 = (a ++ [c]).length by simp, List.drop_left]
  exact List.take_of_length_le (by simp; omega)

set_option maxHeartbeats 2000000 in
set_option maxRecDepth 100000 in
theorem lcut_no (s : List UInt8) (w : World) (h : 47 ∉ s) : Calls Try.prog 32 #[.string (bsL s), .string (bsL [47])] w fun e w' => e = .returned (.tuple #[.string (bsL s), .string (bsL []), .bool false]) ∧ w' = w := by
  go_enter Try.func32, Try.ntmps32
  go_wp2_with (go_at_call 36; refine (idx_at _ _).mono ?_; rintro e w' ⟨rfl, rfl⟩; rw [ix_none h])
  go_ret3
  exact ⟨rfl, rfl⟩
set_option maxHeartbeats 2000000 in
set_option maxRecDepth 100000 in
theorem lcut_yes (a b : List UInt8) (w : World) (h : 47 ∉ a) (hs : a.length + b.length < 4294967280) : Calls Try.prog 32 #[.string (bsL (a ++ 47 :: b)), .string (bsL [47])] w fun e w' => e = .returned (.tuple #[.string (bsL a), .string (bsL b), .bool true]) ∧ w' = w.drew := by
  have e1 := ext_left a (47 :: b)
  have e2 := ext_right a b 47
  have hz : (bsL (a ++ 47 :: b)).size = (a ++ 47 :: b).length := rfl
  obtain ⟨n, hn⟩ : ∃ n, n = (a ++ 47 :: b).length := ⟨_, rfl⟩
  have hn2 : n = a.length + (b.length + 1) := by rw [hn]; simp
  rw [← hn] at hz e2
  rw [hn2] at e2
  have c1 : (0 : Int) ≤ (a.length : Int) := by omega
  have c2 : (a.length : Int) ≤ (n : Int) := by omega
  have c3 : (0 : Int) ≤ (a.length : Int) + 1 := by omega
  have c4 : (a.length : Int) + 1 ≤ (n : Int) := by omega
  have u1 : IntKind.i64.wrap ((a.length : Int) + 1) = (a.length + 1 : Nat) := by rw [IntWalk.i64_in _ (by omega)]; omega
  have z1 : (bsL [47]).size = 1 := rfl
  have mixed : Try.prog.follows .mixedOrders = true := by kernel_rfl
  go_enter Try.func32, Try.ntmps32
  go_wp2_with (go_at_call 36; refine (idx_at _ _).mono ?_; rintro e w' ⟨rfl, rfl⟩; rw [ix_some h])
  go_region_o
  go_wp2
  go_ret3
  exact ⟨rfl, rfl⟩
theorem cut_no (s : List UInt8) (w : World) (h : 47 ∉ s) : Calls Try.prog 26 #[.string (bsL s), .string (bsL [47])] w fun e w' => e = .returned (.tuple #[.string (bsL s), .string (bsL []), .bool false]) ∧ w' = w := by
  go_enter Try.func26, Try.ntmps26
  go_wp2_with (go_at_call 32; refine (lcut_no _ _ h).mono ?_; rintro e w' ⟨rfl, rfl⟩)
  go_ret3
  exact ⟨rfl, rfl⟩
theorem cut_yes (a b : List UInt8) (w : World) (h : 47 ∉ a) (hs : a.length + b.length < 4294967280) : Calls Try.prog 26 #[.string (bsL (a ++ 47 :: b)), .string (bsL [47])] w fun e w' => e = .returned (.tuple #[.string (bsL a), .string (bsL b), .bool true]) ∧ w' = w.drew := by
  go_enter Try.func26, Try.ntmps26
  go_wp2_with (go_at_call 32; refine (lcut_yes _ _ _ h hs).mono ?_; rintro e w' ⟨rfl, rfl⟩)
  go_ret3
  exact ⟨rfl, rfl⟩

end Go.Proofs.Ytnmenihahgggmaa
