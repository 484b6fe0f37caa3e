/-
  Layer 5: the law's small.
-/
import Derived.Test.YtgifjnniohcacaaSpB
namespace Go.Proofs.Ytgifjnniohcacaa
open Go.RowKit

def smallP (x0 x1 x2 : Int) : PlanZ := ⟨max 0 x0 % 3, 1 + max 0 x1 % 4, max 0 x2 % 11⟩
theorem small_ok (x0 x1 x2 : Int) : okZ (smallP x0 x1 x2) = true := by rw [okZ_iff]; unfold smallP; simp only; omega
theorem small_any (x0 x1 x2 : Int) (w : World) : Calls Try.prog 7 #[.agg #[.int .i64 x0, .int .i64 x1, .int .i64 x2]] w fun e w' => e = .returned (planV (smallP x0 x1 x2)) ∧ Below w.heap.size w w' := by
  have HX : ∃ m0 m1 m2 : Int, m0 = max 0 x0 ∧ m1 = max 0 x1 ∧ m2 = max 0 x2 := ⟨_, _, _, rfl, rfl, rfl⟩
  obtain ⟨m0, m1, m2, h0, h1, h2⟩ := HX
  unfold planV smallP
  simp only
  rw [← h0, ← h1, ← h2]
  have H := Lib.hid (And.intro h0 (And.intro h1 h2))
  clear h0 h1 h2
  go_enter Try.func7, Try.ntmps7
  go_wp2_with fail
  all_goals
    obtain ⟨h0, h1, h2⟩ := H.out
    have HB := ((Below.refl w.heap.size w).alloc (Nat.le_refl _) (Obj.cells #[.int .i64 x0, .int .i64 x1, .int .i64 x2] 22))
    first
    | have r0 : m0 = x0 := by omega
      clear h0
      revert r0
      rintro rfl
    | have r0 : m0 = 0 := by omega
      clear h0
      revert r0
      rintro rfl
    first
    | have r1 : m1 = x1 := by omega
      clear h1
      revert r1
      rintro rfl
    | have r1 : m1 = 0 := by omega
      clear h1
      revert r1
      rintro rfl
    first
    | have r2 : m2 = x2 := by omega
      clear h2
      revert r2
      rintro rfl
    | have r2 : m2 = 0 := by omega
      clear h2
      revert r2
      rintro rfl
    refine bodyPost_ret (v := .agg #[.int .i64 _, .int .i64 _, .int .i64 _]) (by simp [results, Try.results7, go_sem]; exact ⟨rfl, rfl, rfl⟩) rfl ⟨by rfl, HB.alloc (by rw [World.size_alloc]; omega) _⟩
end Go.Proofs.Ytgifjnniohcacaa
