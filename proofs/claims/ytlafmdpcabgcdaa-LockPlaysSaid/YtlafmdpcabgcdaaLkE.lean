/-
  Layer 24: Step.
-/
import Derived.Test.YtlafmdpcabgcdaaLkD
namespace Go.Proofs.Ytlafmdpcabgcdaa
open Go.RowKit

theorem MapZ.put_run {w : World} {b m : Nat} {f : Int → Option Nat} (h : MapZ clE 3 w b m f) (hn : m < maxLen) {z : Int} (hz : WfZ z) (c : Nat) :
    ∃ w', (Instr.mapUpdate 53 (.map (some b)) (.int .i64 z) (.int .i64 (c : Int))).run Try.prog w = .ok () w' ∧ MapZ clE 3 w' b (m + 1) (updZ f z (some c)) ∧ Gr [b] w w' ∧ w'.heap.size = w.heap.size := by
  obtain ⟨D, h, q⟩ := h
  obtain ⟨w', hrun, r1, r2⟩ := h.store (t := 53) (Maps.int_keyed Try.underlying3) Try.underlying53 hn (Maps.keyOf_int_mk Try.underlying3 hz) (clE.R_mk c)
  have hs : w'.heap.size = w.heap.size := by
    obtain ⟨es, cl, es', cl', _, rfl⟩ := r2
    simp [ChangeMaps.setBlock]
  exact ⟨w', hrun, ⟨_, r1, q.put h.isMap z c⟩, Gr.ofGrown r2.grown, hs⟩
theorem step_nil (c : Int) (w : World) : Calls Try.prog 12 #[.pointer none, .int .i64 c] w fun e w' => e = .returned (.tuple #[.bool false, .int .i64 1]) ∧ w' = w := by
  go_enter Try.func12, Try.ntmps12
  go_wp2_with (go_at_call 19; refine (check_nil _ _).mono ?_; rintro e w' ⟨rfl, hw⟩; rw [hw])
  go_ret2
  exact ⟨rfl, rfl⟩
theorem step_out (a : LkA) (n m : Nat) (vs : Nat → Value) (S : LkS) (c : Int) (w : World) (h : LkIs w a n m vs S) (hc : chkE n c = 2) : Calls Try.prog 12 #[.pointer (some ⟨a.b, 0, none⟩), .int .i64 c] w fun e w' => e = .returned (.tuple #[.bool false, .int .i64 2]) ∧ w' = w := by
  have HC := Lib.hid (check_at a n m vs S c w h)
  rw [hc] at HC
  clear h
  go_enter Try.func12, Try.ntmps12
  go_wp2_with (go_at_call 19; refine HC.out.mono ?_; rintro e w' ⟨rfl, hw⟩; rw [hw])
  go_ret2
  exact ⟨rfl, rfl⟩
set_option maxRecDepth 100000 in
set_option maxHeartbeats 4000000 in
theorem step_none (a : LkA) (n m : Nat) (vs : Nat → Value) (S : LkS) (c : Nat) (w : World) (h : LkIs w a n m vs S) (hc : c < n) (hS : S.W c = []) : Calls Try.prog 12 #[.pointer (some ⟨a.b, 0, none⟩), .int .i64 c] w fun e w' => e = .returned (.tuple #[.bool true, .int .i64 0]) ∧ w' = w := by
  have HC := Lib.hid (check_at a n m vs S c w h)
  have hk : chkE n c = 0 := by unfold chkE; rw [if_pos (by omega)]
  rw [hk] at HC
  have c1 := h.c1
  have ca := h.at hc
  obtain ⟨ao, cap, hv, -⟩ := h.each c hc
  rw [hv, hS] at ca
  have ic : (c : Int) < (n : Int) := by omega
  clear h hv hS hk
  go_enter Try.func12, Try.ntmps12
  go_wp2_with (go_at_call 19; refine HC.out.mono ?_; rintro e w' ⟨rfl, hw⟩; rw [hw])
  go_ret2
  exact ⟨rfl, rfl⟩
set_option maxRecDepth 100000 in
set_option maxHeartbeats 4000000 in
theorem step_held (a : LkA) (n m : Nat) (vs : Nat → Value) (S : LkS) (c : Nat) (x : Int) (r : List Int) (d : Nat) (w : World) (h : LkIs w a n m vs S) (hc : c < n) (hS : S.W c = x :: r) (hd : S.H x = some d) : Calls Try.prog 12 #[.pointer (some ⟨a.b, 0, none⟩), .int .i64 c] w fun e w' => e = .returned (.tuple #[.bool false, .int .i64 0]) ∧ Gr [] w w' := by
  have HC := Lib.hid (check_at a n m vs S c w h)
  have hk : chkE n c = 0 := by unfold chkE; rw [if_pos (by omega)]
  rw [hk] at HC
  have c1 := h.c1
  have c0 := h.c0
  have ca := h.at hc
  have hv := h.each c hc
  rw [hS] at hv
  obtain ⟨k, o, cap, hv, hkl, ce, -, -, -⟩ := hv.head
  rw [hv] at ca
  have ic : (c : Int) < (n : Int) := by omega
  have hwf : WfZ x := h.wf c x (by rw [hS]; simp)
  have HM : MapZ clE 3 w.drew a.bm m S.H := h.map.gr0 (Gr.refl [] w).drew
  have il : (((r.length + 1 : Nat) : Int) == 0) = false := by rw [beq_eq_false_iff_ne]; omega
  have i0 : (0 : Int) < ((r.length + 1 : Nat) : Int) := by omega
  obtain ⟨l, hl⟩ : ∃ l, l = r.length + 1 := ⟨_, rfl⟩
  rw [← hl] at ca il i0
  have i00 : 0 < l := by omega
  have hl0 : (l == 0) = false := by rw [beq_eq_false_iff_ne]; omega
  have hlk := HM.look_ok Try.underlying3 (show Try.prog.underlying 53 = some (.map 3 3) from Try.underlying53) hwf
  rw [hd] at hlk
  replace hlk : _ = Result.ok (Value.tuple #[.int .i64 (d : Int), .bool true]) w.drew := hlk
  clear h hv hS hk hl HM hd
  go_enter Try.func12, Try.ntmps12
  go_wp2_with (go_at_call 19; refine HC.out.mono ?_; rintro e w' ⟨rfl, hw⟩; rw [hw])
  go_region_held3 (fun w' : World => w'.cell? ⟨a.b, 0, none⟩ = some (.map (some a.bm)) ∧ w'.cell? ⟨a.b, 1, none⟩ = some (.slice (some ⟨a.bw, 0, none⟩) n n) ∧ w'.cell? ⟨a.bw, c, none⟩ = some (.slice (some ⟨k, o, none⟩) l cap) ∧ w'.cell? ⟨k, o, none⟩ = some (.int .i64 x)) (first | assumption | go_keep) (fail)
  have c1d : w.drew.cell? ⟨a.b, 1, none⟩ = some (.slice (some ⟨a.bw, 0, none⟩) n n) := c1
  have cad : w.drew.cell? ⟨a.bw, c, none⟩ = some (.slice (some ⟨k, o, none⟩) l cap) := ca
  go_wp2_with fail
  go_ret2
  exact ⟨rfl, (Gr.refl [] w).drew⟩

end Go.Proofs.Ytlafmdpcabgcdaa
