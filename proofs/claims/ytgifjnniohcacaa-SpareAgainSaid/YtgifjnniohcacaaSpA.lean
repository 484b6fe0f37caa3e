/-
  Layer 5: plans.
-/
import Derived.Test.YtgifjnniohcacaaRegT
import Derived.Test.YtgifjnniohcacaaGr
import Derived.IntWalk
namespace Go.Proofs.Ytgifjnniohcacaa
open Go.RowKit

structure PlanZ where
  a : Int
  l : Int
  s : Int
def okZ (p : PlanZ) : Bool := decide (0 ≤ p.a ∧ p.a ≤ 8192 ∧ 1 ≤ p.l ∧ p.l ≤ 1026 ∧ 0 ≤ p.s ∧ p.s ≤ 64)
def tabZ (p : PlanZ) : Int := (p.s + 7) / 8
def sizeZ (p : PlanZ) : Int := if okZ p then tabZ p + p.l + p.s else 0
def checkZ (p : PlanZ) (n : Int) : Int := if okZ p then (if n < p.a + sizeZ p then 3 else 0) else 2
def planV (p : PlanZ) : Value := .agg #[.int .i64 p.a, .int .i64 p.l, .int .i64 p.s]
theorem okZ_iff (p : PlanZ) : okZ p = true ↔ 0 ≤ p.a ∧ p.a ≤ 8192 ∧ 1 ≤ p.l ∧ p.l ≤ 1026 ∧ 0 ≤ p.s ∧ p.s ≤ 64 := by unfold okZ; rw [decide_eq_true_eq]
theorem okZ_no (p : PlanZ) (h : ¬ (0 ≤ p.a ∧ p.a ≤ 8192 ∧ 1 ≤ p.l ∧ p.l ≤ 1026 ∧ 0 ≤ p.s ∧ p.s ≤ 64)) : okZ p = false := by unfold okZ; exact decide_eq_false h
set_option maxHeartbeats 2000000 in
theorem right_any (p : PlanZ) (w : World) : Calls Try.prog 29 #[planV p] w fun e w' => e = .returned (.bool (okZ p)) ∧ Below w.heap.size w w' := by
  obtain ⟨a, l, s⟩ := p
  unfold planV
  simp only
  have HB := Lib.hid ((Below.refl w.heap.size w).alloc (Nat.le_refl _) (Obj.cells #[.int .i64 a, .int .i64 l, .int .i64 s] 28))
  by_cases h : 0 ≤ a ∧ a ≤ 8192 ∧ 1 ≤ l ∧ l ≤ 1026 ∧ 0 ≤ s ∧ s ≤ 64
  · rw [(okZ_iff ⟨a, l, s⟩).2 h]
    obtain ⟨h1, h2, h3, h4, h5, h6⟩ := h
    go_enter Try.func29, Try.ntmps29
    go_wp2
    go_ret
    exact ⟨rfl, HB.out⟩
  · rw [okZ_no ⟨a, l, s⟩ h]
    by_cases h1 : 0 ≤ a
    · by_cases h2 : a ≤ 8192
      · by_cases h3 : 1 ≤ l
        · by_cases h4 : l ≤ 1026
          · by_cases h5 : 0 ≤ s
            · have h6 : ¬ s ≤ 64 := fun q => h ⟨h1, h2, h3, h4, h5, q⟩
              clear h
              go_enter Try.func29, Try.ntmps29
              go_wp2
              go_ret
              exact ⟨rfl, HB.out⟩
            · clear h
              go_enter Try.func29, Try.ntmps29
              go_wp2
              go_ret
              exact ⟨rfl, HB.out⟩
          · clear h
            go_enter Try.func29, Try.ntmps29
            go_wp2
            go_ret
            exact ⟨rfl, HB.out⟩
        · clear h
          go_enter Try.func29, Try.ntmps29
          go_wp2
          go_ret
          exact ⟨rfl, HB.out⟩
      · clear h
        go_enter Try.func29, Try.ntmps29
        go_wp2
        go_ret
        exact ⟨rfl, HB.out⟩
    · clear h
      go_enter Try.func29, Try.ntmps29
      go_wp2
      go_ret
      exact ⟨rfl, HB.out⟩
theorem table_any (p : PlanZ) (hp : okZ p = true) (w : World) : Calls Try.prog 30 #[planV p] w fun e w' => e = .returned (.int .i64 (tabZ p)) ∧ Below w.heap.size w w' := by
  obtain ⟨a, l, s⟩ := p
  obtain ⟨h1, h2, h3, h4, h5, h6⟩ := (okZ_iff _).1 hp
  simp only at h1 h2 h3 h4 h5 h6
  unfold planV tabZ
  simp only
  have HB := Lib.hid ((Below.refl w.heap.size w).alloc (Nat.le_refl _) (Obj.cells #[.int .i64 a, .int .i64 l, .int .i64 s] 28))
  clear hp
  go_enter Try.func30, Try.ntmps30
  go_wp2
  go_ret
  exact ⟨by simp [show s + 8 - 1 = s + 7 by omega], HB.out⟩
end Go.Proofs.Ytgifjnniohcacaa
