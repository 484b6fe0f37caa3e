/-
  The walk of LeFields.
-/
import Derived.Test.YtlneehkkngnjhaaLawC
import Derived.Deep.QuietTactic
import Derived.BigQuiet
namespace Go.Proofs.Ytlneehkkngnjhaa
open Go.RowKit

theorem Below.drewN_ {B : Nat} {a w : World} (h : Below B a w) (n : Nat) : Below B a (w.drewN n) := ⟨h.os, h.tape, h.output, h.size, h.block⟩
theorem calls_flip {P : Program} {f : FuncId} {args : Array Value} {w : World} {x : Ending} (h : Calls P f args w fun e w' => e = x ∧ w = w') : Calls P f args w fun e w' => e = x ∧ w' = w :=
  h.mono fun _ _ ⟨he, hw⟩ => ⟨he, hw.symm⟩

set_option maxHeartbeats 2000000 in
theorem walk_LeFields (a0 a1 : Int) (a2 : List Int) (w0 : (Lit.int .u64 a0).wf = true) (w1 : (Lit.int .u64 a1).wf = true) (l2 : a2.length = 2) (w2 : ∀ x ∈ a2, (Lit.int .i64 x).wf = true) (w : World) :
    Calls Try.prog 5 #[.int .u64 a0, .int .u64 a1, .agg (a2.map (Value.int .i64)).toArray] w fun e w' => e = .returned (.bool true) ∧ Below w.heap.size w w' := by
  obtain ⟨n, rfl, hn⟩ := nat_u64 w0
  obtain ⟨v, rfl, hv⟩ := nat_u64 w1
  match a2, l2, w2 with
  | [x, y], _, w2 =>
    have hx := bounds_i64 (w2 x (by simp))
    have hy := bounds_i64 (w2 y (by simp))
    clear w2 w0 w1
    show Calls Try.prog 5 #[.int .u64 n, .int .u64 v, .agg #[.int .i64 x, .int .i64 y]] w fun e w' => e = .returned (.bool true) ∧ Below w.heap.size w w'
    by_cases cx : 0 < x
    all_goals by_cases cy : 0 < y
    all_goals
      go_enter Try.func5, Try.ntmps5
      go_wp2_with fail
      refine wp_loop_rounds 3 ?_
      rw [rounds_succ]
      go_wp2_with fail
      go_quiet ((first
        | (go_at_call 22; exact Calls.quiet_of_same (calls_flip (field_any n _ _ _ hn (by omega) (by omega))))
        | (go_at_call 23; exact Calls.quiet_of_same (calls_flip (rfield_any n _ _ _ hn)))
        | (go_at_call 24; exact Calls.quiet_of_same (calls_flip (with_any n _ _ v _ hn (by omega) (by omega))))
        | (go_at_call 25; exact Calls.quiet_of_same (calls_flip (rwith_any n _ _ v _ hn hv)))))
      go_wp2_with fail
      rw [rounds_succ]
      go_wp2_with fail
      go_quiet ((first
        | (go_at_call 22; exact Calls.quiet_of_same (calls_flip (field_any n _ _ _ hn (by omega) (by omega))))
        | (go_at_call 23; exact Calls.quiet_of_same (calls_flip (rfield_any n _ _ _ hn)))
        | (go_at_call 24; exact Calls.quiet_of_same (calls_flip (with_any n _ _ v _ hn (by omega) (by omega))))
        | (go_at_call 25; exact Calls.quiet_of_same (calls_flip (rwith_any n _ _ v _ hn hv)))))
      go_wp2_with fail
      rw [rounds_succ]
      go_wp2_with fail
      refine (wakes1_any _).mono ?_
      rintro e w5 ⟨rfl, hb5⟩
      go_wp2_with fail
      go_ret
      refine ⟨rfl, Below.trans ?_ (hb5.mono (by simp; omega))⟩
      repeat first
        | exact Below.refl _ _
        | refine Below.drewN_ ?_ _
        | refine Below.alloc ?_ (by first | exact Nat.le_refl _ | (simp; done) | (simp; omega)) _

end Go.Proofs.Ytlneehkkngnjhaa
