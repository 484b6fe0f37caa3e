/-
  Layer 24: Has, Drop, Ask of nil locks, and of a client that there isn't.
-/
import Derived.Test.YtlafmdpcabgcdaaLkG
namespace Go.Proofs.Ytlafmdpcabgcdaa
open Go.RowKit

theorem has_out (a : LkA) (n m : Nat) (vs : Nat → Value) (S : LkS) (c : Int) (w : World) (h : LkIs w a n m vs S) (hc : chkE n c = 2) : Calls Try.prog 15 #[.pointer (some ⟨a.b, 0, none⟩), .int .i64 c] w fun e w' => e = .returned (.slice none 0 0) ∧ w' = w := by
  have HC := Lib.hid (check_at a n m vs S c w h)
  rw [hc] at HC
  clear h
  go_enter Try.func15, Try.ntmps15
  go_wp2_with (go_at_call 19; refine HC.out.mono ?_; rintro e w' ⟨rfl, hw⟩; rw [hw])
  go_ret
  exact ⟨rfl, rfl⟩
theorem has_nil (c : Int) (w : World) : Calls Try.prog 15 #[.pointer none, .int .i64 c] w fun e w' => e = .returned (.slice none 0 0) ∧ w' = w := by
  go_enter Try.func15, Try.ntmps15
  go_wp2_with (go_at_call 19; refine (check_nil _ _).mono ?_; rintro e w' ⟨rfl, hw⟩; rw [hw])
  go_ret
  exact ⟨rfl, rfl⟩
theorem ask_out (a : LkA) (n m : Nat) (vs : Nat → Value) (S : LkS) (c : Int) (v : Value) (w : World) (h : LkIs w a n m vs S) (hc : chkE n c = 2) : Calls Try.prog 8 #[.pointer (some ⟨a.b, 0, none⟩), .int .i64 c, v] w fun e w' => e = .returned (.int .i64 2) ∧ w' = w := by
  have HC := Lib.hid (check_at a n m vs S c w h)
  rw [hc] at HC
  clear h
  go_enter Try.func8, Try.ntmps8
  go_wp2_with (go_at_call 19; refine HC.out.mono ?_; rintro e w' ⟨rfl, hw⟩; rw [hw])
  go_ret
  exact ⟨rfl, rfl⟩
theorem ask_nil (c : Int) (v : Value) (w : World) : Calls Try.prog 8 #[.pointer none, .int .i64 c, v] w fun e w' => e = .returned (.int .i64 1) ∧ w' = w := by
  go_enter Try.func8, Try.ntmps8
  go_wp2_with (go_at_call 19; refine (check_nil _ _).mono ?_; rintro e w' ⟨rfl, hw⟩; rw [hw])
  go_ret
  exact ⟨rfl, rfl⟩
theorem drop_out (a : LkA) (n m : Nat) (vs : Nat → Value) (S : LkS) (c : Int) (w : World) (h : LkIs w a n m vs S) (hc : chkE n c = 2) : Calls Try.prog 10 #[.pointer (some ⟨a.b, 0, none⟩), .int .i64 c] w fun e w' => e = .returned (.int .i64 2) ∧ Gr [] w w' := by
  have HC := Lib.hid (check_at a n m vs S c (w.alloc (.cells #[.int .i64 c] 3)) (h.gr0 ((Gr.refl [] w).alloc _)))
  rw [hc] at HC
  clear h
  go_enter Try.func10, Try.ntmps10
  go_wp2_with (go_at_call 19; refine HC.out.mono ?_; rintro e w' ⟨rfl, hw⟩; rw [hw])
  go_ret
  exact ⟨rfl, (Gr.refl [] w).alloc _⟩
theorem drop_nil (c : Int) (w : World) : Calls Try.prog 10 #[.pointer none, .int .i64 c] w fun e w' => e = .returned (.int .i64 1) ∧ Gr [] w w' := by
  go_enter Try.func10, Try.ntmps10
  go_wp2_with (go_at_call 19; refine (check_nil _ _).mono ?_; rintro e w' ⟨rfl, hw⟩; rw [hw])
  go_ret
  exact ⟨rfl, (Gr.refl [] w).alloc _⟩

end Go.Proofs.Ytlafmdpcabgcdaa
