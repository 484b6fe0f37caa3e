/-
  Layer 24: New, check.
-/
import Derived.Test.YtlafmdpcabgcdaaLkA
import Derived.Lib.Hide
import Derived.Deep.RegionHeld3
import Derived.Deep.RegionLaw
import Derived.RegionTactic
namespace Go.Proofs.Ytlafmdpcabgcdaa
open Go.RowKit

/-- What is told of a client. -/
def chkE (n : Nat) (c : Int) : Int := if 0 ≤ c ∧ c < n then 0 else 2
theorem check_nil (c : Int) (w : World) : Calls Try.prog 19 #[.pointer none, .int .i64 c] w fun e w' => e = .returned (.int .i64 1) ∧ w' = w := by
  go_enter Try.func19, Try.ntmps19
  go_wp2
  go_ret
  exact ⟨rfl, rfl⟩
theorem check_at (a : LkA) (n m : Nat) (vs : Nat → Value) (S : LkS) (c : Int) (w : World) (h : LkIs w a n m vs S) : Calls Try.prog 19 #[.pointer (some ⟨a.b, 0, none⟩), .int .i64 c] w fun e w' => e = .returned (.int .i64 (chkE n c)) ∧ w' = w := by
  have c1 := h.c1
  clear h
  by_cases h0 : c < 0
  · have hE : chkE n c = 2 := by unfold chkE; rw [if_neg (by omega)]
    rw [hE]
    go_enter Try.func19, Try.ntmps19
    go_wp2
    go_ret
    exact ⟨rfl, rfl⟩
  · by_cases h1 : (n : Int) ≤ c
    · have hE : chkE n c = 2 := by unfold chkE; rw [if_neg (by omega)]
      rw [hE]
      go_enter Try.func19, Try.ntmps19
      go_wp2
      go_ret
      exact ⟨rfl, rfl⟩
    · have hE : chkE n c = 0 := by unfold chkE; rw [if_pos (by omega)]
      rw [hE]
      go_enter Try.func19, Try.ntmps19
      go_wp2
      go_ret
      exact ⟨rfl, rfl⟩
theorem new_no (n : Int) (w : World) (h : n < 1 ∨ 8 < n) : Calls Try.prog 6 #[.int .i64 n] w fun e w' => e = .returned (.tuple #[.pointer none, .int .i64 2]) ∧ w' = w := by
  by_cases h0 : n < 1
  · go_enter Try.func6, Try.ntmps6
    go_wp2
    go_ret2
    exact ⟨rfl, rfl⟩
  · have h1 : 8 < n := by omega
    go_enter Try.func6, Try.ntmps6
    go_wp2
    go_ret2
    exact ⟨rfl, rfl⟩
theorem step_look {ops : Array Oper} {o : Oper} {a : Act} {w : World} {K : Act → World → Prop} {Q : Exit → Act → World → Prop} {E : Prop} {t : TypeId} {b m : Nat} {f : Int → Option Nat}
    (hg : o.guard = none) (mm x : Operand) (hop : o.op = Op.lookup t mm x true) (hm : a.eval mm = .map (some b)) (h : MapZ clE 3 w b m f) (ht : Try.prog.underlying t = some (.map 3 3)) (z : Int) (hx : a.eval x = .int .i64 z) (hz : WfZ z)
    (V : Value) (hV : Value.tuple #[.int .i64 (((f z).getD 0 : Nat) : Int), .bool (f z).isSome] = V) (hK : K (a.put o.dst V) w) :
    if Region.wanted o (yielded ops a.tmps) = true then Oper.wp Try.prog o a w K Q else E := by
  have hw : Region.wanted o (yielded ops a.tmps) = true := by simp [Region.wanted, hg]
  rw [if_pos hw]
  subst hV
  have hl := h.look_ok Try.underlying3 ht hz
  unfold Oper.wp
  simp [execOp, hop, hm, hx, hl, Result.andThen]
  exact hK
theorem waits_out (a : LkA) (n m : Nat) (vs : Nat → Value) (S : LkS) (c : Int) (w : World) (h : LkIs w a n m vs S) (hc : chkE n c = 2) : Calls Try.prog 17 #[.pointer (some ⟨a.b, 0, none⟩), .int .i64 c] w fun e w' => e = .returned (.int .i64 (-1)) ∧ w' = w := by
  have HC := Lib.hid (check_at a n m vs S c w h)
  rw [hc] at HC
  clear h
  go_enter Try.func17, Try.ntmps17
  go_wp2_with (go_at_call 19; refine HC.out.mono ?_; rintro e w' ⟨rfl, hw⟩; rw [hw])
  go_ret
  exact ⟨rfl, rfl⟩
theorem waits_nil (c : Int) (w : World) : Calls Try.prog 17 #[.pointer none, .int .i64 c] w fun e w' => e = .returned (.int .i64 (-1)) ∧ w' = w := by
  go_enter Try.func17, Try.ntmps17
  go_wp2_with (go_at_call 19; refine (check_nil _ _).mono ?_; rintro e w' ⟨rfl, hw⟩; rw [hw])
  go_ret
  exact ⟨rfl, rfl⟩
set_option maxRecDepth 100000 in
set_option maxHeartbeats 4000000 in
theorem waits_none (a : LkA) (n m : Nat) (vs : Nat → Value) (S : LkS) (c : Nat) (w : World) (h : LkIs w a n m vs S) (hc : c < n) (hS : S.W c = []) : Calls Try.prog 17 #[.pointer (some ⟨a.b, 0, none⟩), .int .i64 c] w fun e w' => e = .returned (.int .i64 (-1)) ∧ w' = w := by
  have HC := Lib.hid (check_at a n m vs S c w h)
  have hk : chkE n c = 0 := by unfold chkE; rw [if_pos (by omega)]
  rw [hk] at HC
  have c1 := h.c1
  have ca := h.at hc
  obtain ⟨ao, cap, hv, -⟩ := h.each c hc
  rw [hv, hS] at ca
  have ic : (c : Int) < (n : Int) := by omega
  clear h hv hS hk
  go_enter Try.func17, Try.ntmps17
  go_wp2_with (go_at_call 19; refine HC.out.mono ?_; rintro e w' ⟨rfl, hw⟩; rw [hw])
  go_ret
  exact ⟨rfl, rfl⟩

end Go.Proofs.Ytlafmdpcabgcdaa
