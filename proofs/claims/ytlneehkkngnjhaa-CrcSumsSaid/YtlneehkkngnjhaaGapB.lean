/-
  Contracts of gap's Next and First.
-/
import Derived.Test.YtlneehkkngnjhaaGap
namespace Go.Proofs.Ytlneehkkngnjhaa
open Go.RowKit

def m1 (m : Int) : Int := (m + 1) % 4294967296

set_option maxHeartbeats 800000 in
theorem next_pos (s g m n : Int) (w : World) (h : rightS s g n) (hg : 0 < g) (hm : 0 ≤ m ∧ m ≤ 4294967295) :
    Calls Try.prog 42 #[.agg #[.int .i64 s, .int .i64 g, .int .u32 m], .int .i64 n] w fun e w' => e = .returned (.tuple #[.agg #[.int .i64 s, .int .i64 (g - 1), .int .u32 (m1 m)], .int .i64 (g - 1), .int .i64 g]) ∧ Below w.heap.size w w' := by
  have H := Lib.hid h
  obtain ⟨a1, a2, a3, a4, a5, a6⟩ := h
  go_enter Try.func42, Try.ntmps42
  go_wp2_with (go_at_call 39; refine (right_yes _ _ _ _ _ H.out).mono ?_; rintro e w' ⟨rfl, rfl⟩; unfold stC)
  go_region
  go_wp2
  exact bodyPost_ret (v := .tuple #[(.agg #[.int .i64 s, .int .i64 (g - 1), .int .u32 ((m + 1) % 4294967296)]), .int .i64 (g - 1), .int .i64 g]) (by simp [results, Try.results42, go_sem]) rfl ⟨rfl, by go_grown⟩
set_option maxHeartbeats 800000 in
theorem next_zero (s m n : Int) (w : World) (h : rightS s 0 n) (hm : 0 ≤ m ∧ m ≤ 4294967295) :
    Calls Try.prog 42 #[.agg #[.int .i64 s, .int .i64 0, .int .u32 m], .int .i64 n] w fun e w' => e = .returned (.tuple #[.agg #[.int .i64 ((s + 1) % n), .int .i64 n, .int .u32 (m1 m)], .int .i64 n, .int .i64 0]) ∧ Below w.heap.size w w' := by
  have H := Lib.hid h
  obtain ⟨a1, a2, a3, a4, a5, a6⟩ := h
  go_enter Try.func42, Try.ntmps42
  go_wp2_with (go_at_call 39; refine (right_yes _ _ _ _ _ H.out).mono ?_; rintro e w' ⟨rfl, rfl⟩; unfold stC)
  exact bodyPost_ret (v := .tuple #[(.agg #[.int .i64 ((s + 1) % n), .int .i64 n, .int .u32 ((m + 1) % 4294967296)]), .int .i64 n, .int .i64 0]) (by simp [results, Try.results42, go_sem]) rfl ⟨rfl, by go_grown⟩
set_option maxHeartbeats 800000 in
theorem next_no (s g m n : Int) (w : World) (h : ¬ rightS s g n) :
    Calls Try.prog 42 #[.agg #[.int .i64 s, .int .i64 g, .int .u32 m], .int .i64 n] w fun e w' => e = .returned (.tuple #[.agg #[.int .i64 0, .int .i64 0, .int .u32 0], .int .i64 0, .int .i64 0]) ∧ Below w.heap.size w w' := by
  have H := Lib.hid h
  clear h
  go_enter Try.func42, Try.ntmps42
  go_wp2_with (go_at_call 39; refine (right_no _ _ _ _ _ H.out).mono ?_; rintro e w' ⟨rfl, rfl⟩; unfold stC)
  exact bodyPost_ret (v := .tuple #[(.agg #[.int .i64 0, .int .i64 0, .int .u32 0]), .int .i64 0, .int .i64 0]) (by simp [results, Try.results42, go_sem]) rfl ⟨rfl, by go_grown⟩

theorem first_any (n : Int) (w : World) (h1 : 1 ≤ n) (h2 : n ≤ 1024) :
    Calls Try.prog 40 #[.int .i64 n] w fun e w' => e = .returned (.agg #[.int .i64 0, .int .i64 n, .int .u32 0]) ∧ Below w.heap.size w w' := by
  go_enter Try.func40, Try.ntmps40
  go_wp2_with (go_at_call 53; refine (ring_yes _ _ (by omega) (by omega)).mono ?_; rintro e w' ⟨rfl, rfl⟩)
  exact bodyPost_ret (v := .agg #[.int .i64 0, .int .i64 n, .int .u32 0]) (by simp [results, Try.results40, go_sem]) rfl ⟨rfl, by go_grown⟩
theorem first_no (n : Int) (w : World) (h : n < 1 ∨ (1 ≤ n ∧ 1024 < n)) :
    Calls Try.prog 40 #[.int .i64 n] w fun e w' => e = .returned (.agg #[.int .i64 0, .int .i64 0, .int .u32 0]) ∧ Below w.heap.size w w' := by
  have H := Lib.hid h
  clear h
  go_enter Try.func40, Try.ntmps40
  go_wp2_with (go_at_call 53; refine (ring_no _ _ H.out).mono ?_; rintro e w' ⟨rfl, rfl⟩)
  exact bodyPost_ret (v := .agg #[.int .i64 0, .int .i64 0, .int .u32 0]) (by simp [results, Try.results40, go_sem]) rfl ⟨rfl, by go_grown⟩

end Go.Proofs.Ytlneehkkngnjhaa
