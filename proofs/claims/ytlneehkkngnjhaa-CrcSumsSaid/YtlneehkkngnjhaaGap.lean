/-
  Contracts of package gap's functions.
-/
import Derived.Test.YtlneehkkngnjhaaRows
import Derived.Test.YtlneehkkngnjhaaPure
import Derived.WalkKit
import Derived.Handy
import Derived.Lib.Hide
import Derived.Deep.QuietTactic
import Derived.BigQuiet
namespace Go.Proofs.Ytlneehkkngnjhaa
open Go.RowKit

/-- May such a state be, of so many lines? -/
def rightS (s g n : Int) : Prop := 1 ≤ n ∧ n ≤ 1024 ∧ 0 ≤ s ∧ s < n ∧ 0 ≤ g ∧ g ≤ n
instance (s g n : Int) : Decidable (rightS s g n) := by unfold rightS; infer_instance
def stV (s g m : Int) : Value := .agg #[.int .i64 s, .int .i64 g, .int .u32 m]
def stC (s g m : Int) : Obj := .cells #[.int .i64 s, .int .i64 g, .int .u32 m] 58

theorem ring_yes (n : Int) (w : World) (h1 : 1 ≤ n) (h2 : n ≤ 1024) : Calls Try.prog 53 #[.int .i64 n] w fun e w' => e = .returned (.bool true) ∧ w = w' := by
  go_enter Try.func53, Try.ntmps53
  go_wp2
  go_ret
  exact ⟨by first | rfl | (simp; omega), rfl⟩
theorem ring_no (n : Int) (w : World) (h : n < 1 ∨ (1 ≤ n ∧ 1024 < n)) : Calls Try.prog 53 #[.int .i64 n] w fun e w' => e = .returned (.bool false) ∧ w = w' := by
  rcases h with h | ⟨h, h'⟩
  all_goals
    go_enter Try.func53, Try.ntmps53
    go_wp2
    go_ret
    exact ⟨by first | rfl | (simp; omega), rfl⟩

set_option maxHeartbeats 800000 in
theorem right_yes (s g m n : Int) (w : World) (h : rightS s g n) : Calls Try.prog 39 #[.agg #[.int .i64 s, .int .i64 g, .int .u32 m], .int .i64 n] w fun e w' => e = .returned (.bool true) ∧ w.alloc (stC s g m) = w' := by
  obtain ⟨h1, h2, h3, h4, h5, h6⟩ := h
  go_enter Try.func39, Try.ntmps39
  go_wp2_with (go_at_call 53; refine (ring_yes _ _ (by omega) (by omega)).mono ?_; rintro e w' ⟨rfl, rfl⟩)
  go_ret
  exact ⟨by first | rfl | (simp; omega), rfl⟩
set_option maxHeartbeats 800000 in
theorem right_no (s g m n : Int) (w : World) (h : ¬ rightS s g n) : Calls Try.prog 39 #[.agg #[.int .i64 s, .int .i64 g, .int .u32 m], .int .i64 n] w fun e w' => e = .returned (.bool false) ∧ w.alloc (stC s g m) = w' := by
  have hh : (n < 1 ∨ (1 ≤ n ∧ 1024 < n)) ∨ (1 ≤ n ∧ n ≤ 1024 ∧ (s < 0 ∨ (0 ≤ s ∧ n ≤ s) ∨ (0 ≤ s ∧ s < n ∧ g < 0) ∨ (0 ≤ s ∧ s < n ∧ 0 ≤ g ∧ n < g))) := by
    unfold rightS at h; omega
  clear h
  rcases hh with h | ⟨h1, h2, h | ⟨h3, h4⟩ | ⟨h3, h4, h5⟩ | ⟨h3, h4, h5, h6⟩⟩
  · have H := Lib.hid h
    clear h
    go_enter Try.func39, Try.ntmps39
    go_wp2_with (go_at_call 53; refine (ring_no _ _ H.out).mono ?_; rintro e w' ⟨rfl, rfl⟩)
    go_ret
    exact ⟨rfl, rfl⟩
  all_goals
    go_enter Try.func39, Try.ntmps39
    go_wp2_with (go_at_call 53; refine (ring_yes _ _ (by omega) (by omega)).mono ?_; rintro e w' ⟨rfl, rfl⟩)
    go_ret
    exact ⟨by first | rfl | (simp; omega), rfl⟩

def slotI (s g n i : Int) : Int := if (i + s) % n < g then (i + s) % n else (i + s) % n + 1
def lineI (s g n p : Int) : Int := ((if g < p then p - 1 else p) - s + n) % n

set_option maxHeartbeats 800000 in
theorem slot_yes (s g m n i : Int) (w : World) (h : rightS s g n) (h0 : 0 ≤ i) (h1 : i < n) :
    Calls Try.prog 37 #[.agg #[.int .i64 s, .int .i64 g, .int .u32 m], .int .i64 n, .int .i64 i] w fun e w' => e = .returned (.int .i64 (slotI s g n i)) ∧ Below w.heap.size w w' := by
  have H := Lib.hid h
  obtain ⟨a1, a2, a3, a4, a5, a6⟩ := h
  have q1 := Int.emod_nonneg (i + s) (show n ≠ 0 by omega)
  have q2 := Int.emod_lt_of_pos (i + s) (show 0 < n by omega)
  by_cases c : (i + s) % n < g
  · have e : slotI s g n i = (i + s) % n := by unfold slotI; rw [if_pos c]
    rw [e]
    clear e
    go_enter Try.func37, Try.ntmps37
    go_wp2_with (go_at_call 39; refine (right_yes _ _ _ _ _ H.out).mono ?_; rintro e w' ⟨rfl, rfl⟩; unfold stC)
    go_ret
    exact ⟨rfl, by go_grown⟩
  · have e : slotI s g n i = (i + s) % n + 1 := by unfold slotI; rw [if_neg c]
    rw [e]
    clear e
    go_enter Try.func37, Try.ntmps37
    go_wp2_with (go_at_call 39; refine (right_yes _ _ _ _ _ H.out).mono ?_; rintro e w' ⟨rfl, rfl⟩; unfold stC)
    go_ret
    exact ⟨rfl, by go_grown⟩
set_option maxHeartbeats 800000 in
theorem slot_no (s g m n i : Int) (w : World) (h : ¬ rightS s g n ∨ (rightS s g n ∧ (i < 0 ∨ (0 ≤ i ∧ n ≤ i)))) :
    Calls Try.prog 37 #[.agg #[.int .i64 s, .int .i64 g, .int .u32 m], .int .i64 n, .int .i64 i] w fun e w' => e = .returned (.int .i64 (-1)) ∧ Below w.heap.size w w' := by
  rcases h with h | ⟨h, h' | ⟨h', h''⟩⟩
  · have H := Lib.hid h
    clear h
    go_enter Try.func37, Try.ntmps37
    go_wp2_with (go_at_call 39; refine (right_no _ _ _ _ _ H.out).mono ?_; rintro e w' ⟨rfl, rfl⟩; unfold stC)
    go_ret
    exact ⟨rfl, by go_grown⟩
  all_goals
    have H := Lib.hid h
    clear h
    go_enter Try.func37, Try.ntmps37
    go_wp2_with (go_at_call 39; refine (right_yes _ _ _ _ _ H.out).mono ?_; rintro e w' ⟨rfl, rfl⟩; unfold stC)
    go_ret
    exact ⟨rfl, by go_grown⟩
set_option maxHeartbeats 800000 in
theorem line_yes (s g m n p : Int) (w : World) (h : rightS s g n) (h0 : 0 ≤ p) (h1 : p ≤ n) (h2 : p ≠ g) :
    Calls Try.prog 36 #[.agg #[.int .i64 s, .int .i64 g, .int .u32 m], .int .i64 n, .int .i64 p] w fun e w' => e = .returned (.int .i64 (lineI s g n p)) ∧ Below w.heap.size w w' := by
  have H := Lib.hid h
  obtain ⟨a1, a2, a3, a4, a5, a6⟩ := h
  have hb : (p == g) = false := by simp [h2]
  clear h2
  by_cases c : g < p
  · have e : lineI s g n p = (p - 1 - s + n) % n := by unfold lineI; rw [if_pos c]
    rw [e]
    clear e
    go_enter Try.func36, Try.ntmps36
    go_wp2_with (go_at_call 39; refine (right_yes _ _ _ _ _ H.out).mono ?_; rintro e w' ⟨rfl, rfl⟩; unfold stC)
    go_ret
    exact ⟨rfl, by go_grown⟩
  · have e : lineI s g n p = (p - s + n) % n := by unfold lineI; rw [if_neg c]
    rw [e]
    clear e
    go_enter Try.func36, Try.ntmps36
    go_wp2_with (go_at_call 39; refine (right_yes _ _ _ _ _ H.out).mono ?_; rintro e w' ⟨rfl, rfl⟩; unfold stC)
    go_ret
    exact ⟨rfl, by go_grown⟩
set_option maxHeartbeats 800000 in
theorem line_no (s g m n p : Int) (w : World) (h : ¬ rightS s g n ∨ (rightS s g n ∧ (p < 0 ∨ (0 ≤ p ∧ n < p) ∨ (0 ≤ p ∧ p ≤ n ∧ p = g)))) :
    Calls Try.prog 36 #[.agg #[.int .i64 s, .int .i64 g, .int .u32 m], .int .i64 n, .int .i64 p] w fun e w' => e = .returned (.int .i64 (-1)) ∧ Below w.heap.size w w' := by
  rcases h with h | ⟨h, h' | ⟨h', h''⟩ | ⟨h', h'', rfl⟩⟩
  · have H := Lib.hid h
    clear h
    go_enter Try.func36, Try.ntmps36
    go_wp2_with (go_at_call 39; refine (right_no _ _ _ _ _ H.out).mono ?_; rintro e w' ⟨rfl, rfl⟩; unfold stC)
    go_ret
    exact ⟨rfl, by go_grown⟩
  all_goals
    have H := Lib.hid h
    clear h
    go_enter Try.func36, Try.ntmps36
    go_wp2_with (go_at_call 39; refine (right_yes _ _ _ _ _ H.out).mono ?_; rintro e w' ⟨rfl, rfl⟩; unfold stC)
    go_ret
    exact ⟨rfl, by go_grown⟩

end Go.Proofs.Ytlneehkkngnjhaa
