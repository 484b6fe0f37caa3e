/-
  The walk of CrcSums.
-/
import Derived.Test.YtlneehkkngnjhaaSum5
namespace Go.Proofs.Ytlneehkkngnjhaa
open Go.RowKit

/-- What both sides answer of a text. -/
structure Sums (S : ByteArray) (x y : Nat) : Prop where
  a : ∀ w : World, Calls Try.prog 27 #[.string S] w fun e w' => e = .returned (.int .u16 (x : Int)) ∧ w = w'
  b : ∀ w : World, Calls Try.prog 28 #[.string S] w fun e w' => e = .returned (.int .u64 (x : Int)) ∧ Below w.heap.size w w'
  c : ∀ w : World, Calls Try.prog 29 #[.string S] w fun e w' => e = .returned (.int .u32 (y : Int)) ∧ w = w'
  d : ∀ w : World, Calls Try.prog 30 #[.string S] w fun e w' => e = .returned (.int .u64 (y : Int)) ∧ Below w.heap.size w w'
  x1 : x < 65536
  y1 : y < 4294967296
theorem sums_of (S : ByteArray) (h : S.size ≤ 1000) : ∃ x y, Sums S x y :=
  ⟨_, _, fun w => sum16_any S w (by unfold maxLen; omega), fun w => rsum16_all S w h, fun w => sum32_any S w (by unfold maxLen; omega), fun w => rsum32 S w h, n16_lt _, n32_lt _⟩

set_option maxHeartbeats 1000000 in
theorem walk_CrcSums (a0 : ByteArray) (w0 : a0.size ≤ maxLen) (x0 : a0.size ≤ reachBytes) (w : World) :
    Calls Try.prog 8 #[.string a0] w fun e w' => e = .returned (.bool true) ∧ Below w.heap.size w w' := by
  unfold maxLen at w0
  by_cases c0 : 400 < (a0.size : Int)
  · obtain ⟨x, y, hS⟩ := sums_of (a0.extract 0 400) (by rw [ByteArray.size_extract]; omega)
    have HS := Lib.hid hS
    obtain ⟨_, _, _, _, hx1, hy1⟩ := hS
    go_enter Try.func8, Try.ntmps8
    go_wp2_with fail
    refine (wakes2_any _).mono ?_
    rintro e v1 ⟨rfl, hb1⟩
    go_wp2_with fail
    refine (HS.out.a _).mono ?_
    rintro e v2 ⟨rfl, rfl⟩
    go_wp2_with fail
    refine (HS.out.b _).mono ?_
    rintro e v3 ⟨rfl, hb3⟩
    have B3 := below_next hb1 hb3
    go_wp2_with fail
    refine (HS.out.c _).mono ?_
    rintro e v4 ⟨rfl, rfl⟩
    go_wp2_with fail
    refine (HS.out.d _).mono ?_
    rintro e v5 ⟨rfl, hb5⟩
    have HB := Lib.hid (below_next B3 hb5)
    clear hb1 hb3 B3 hb5
    go_wp2_with fail
    go_ret
    exact ⟨rfl, HB.out⟩
  · obtain ⟨x, y, hS⟩ := sums_of a0 (by omega)
    have HS := Lib.hid hS
    obtain ⟨_, _, _, _, hx1, hy1⟩ := hS
    have hext : a0.extract 0 a0.size = a0 := by simp
    go_enter Try.func8, Try.ntmps8
    go_wp2_with fail
    refine (wakes2_any _).mono ?_
    rintro e v1 ⟨rfl, hb1⟩
    go_wp2_with fail
    refine (HS.out.a _).mono ?_
    rintro e v2 ⟨rfl, rfl⟩
    go_wp2_with fail
    refine (HS.out.b _).mono ?_
    rintro e v3 ⟨rfl, hb3⟩
    have B3 := below_next hb1 hb3
    go_wp2_with fail
    refine (HS.out.c _).mono ?_
    rintro e v4 ⟨rfl, rfl⟩
    go_wp2_with fail
    refine (HS.out.d _).mono ?_
    rintro e v5 ⟨rfl, hb5⟩
    have HB := Lib.hid (below_next B3 hb5)
    clear hb1 hb3 B3 hb5
    go_wp2_with fail
    go_ret
    exact ⟨rfl, HB.out⟩

end Go.Proofs.Ytlneehkkngnjhaa
