/-
  Layer 24: Waits of a client that wants something; New.
-/
import Derived.Test.YtlafmdpcabgcdaaLkB
namespace Go.Proofs.Ytlafmdpcabgcdaa
open Go.RowKit

/-- What a list's first element is in memory. -/
theorem LkV.head {w : World} {a : LkA} {v : Value} {x : Int} {r : List Int} (h : LkV w a v (x :: r)) : ∃ k o cap, v = .slice (some ⟨k, o, none⟩) (r.length + 1) cap ∧ k < w.heap.size ∧ w.cell? ⟨k, o, none⟩ = some (.int .i64 x) ∧ k ∉ a.all ∧ r.length + 1 ≤ cap ∧ cap ≤ maxLen := by
  obtain ⟨ao, cap, h1, h2, h3, h4, h5, h6⟩ := h
  obtain ⟨k, o, q1, q2, q3⟩ := h2 0 x rfl
  subst q1
  exact ⟨k, o, cap, by rw [h1]; simp, q2, by simpa using q3, h6 k o rfl, by simpa using h3, h4⟩
/-- What a look-up in a Locks' map says. -/
def lookV (S : LkS) (x : Int) : Value := .tuple #[.int .i64 (((S.H x).getD 0 : Nat) : Int), .bool (S.H x).isSome]
set_option maxRecDepth 100000 in
set_option maxHeartbeats 4000000 in
theorem waits_some (a : LkA) (n m : Nat) (vs : Nat → Value) (S : LkS) (c : Nat) (x : Int) (r : List Int) (w : World) (h : LkIs w a n m vs S) (hc : c < n) (hS : S.W c = x :: r) : Calls Try.prog 17 #[.pointer (some ⟨a.b, 0, none⟩), .int .i64 c] w fun e w' => e = .returned (.int .i64 (match S.H x with | none => -1 | some d => (d : Int))) ∧ Gr [] w w' := by
  have HC := Lib.hid (check_at a n m vs S c w h)
  have hk : chkE n c = 0 := by unfold chkE; rw [if_pos (by omega)]
  rw [hk] at HC
  have c1 := h.c1
  have c0 := h.c0
  have ca := h.at hc
  have hv := h.each c hc
  rw [hS] at hv
  obtain ⟨k, o, cap, hv, hkl, ce, -, -, -⟩ := hv.head
  rw [hv] at ca
  have ic : (c : Int) < (n : Int) := by omega
  have hwf : WfZ x := h.wf c x (by rw [hS]; simp)
  have HM := Lib.hid (show MapZ clE 3 w.drew a.bm m S.H from h.map.gr0 (Gr.refl [] w).drew)
  have il : (((r.length + 1 : Nat) : Int) == 0) = false := by rw [beq_eq_false_iff_ne]; omega
  have i0 : (0 : Int) < ((r.length + 1 : Nat) : Int) := by omega
  obtain ⟨l, hl⟩ : ∃ l, l = r.length + 1 := ⟨_, rfl⟩
  rw [← hl] at ca il i0
  have i00 : 0 < l := by omega
  have HLK := Lib.hid (HM.out.look_ok Try.underlying3 (show Try.prog.underlying 53 = some (.map 3 3) from Try.underlying53) hwf)
  clear h hv hS hk hl
  obtain ⟨q, hq⟩ : ∃ q, q = S.H x := ⟨_, rfl⟩
  rw [← hq]
  have HQ := Lib.hid hq
  clear hq
  cases q with
  | none =>
    have hlk := HLK.out
    rw [← HQ.out] at hlk
    replace hlk : _ = Result.ok (Value.tuple #[.int .i64 0, .bool false]) w.drew := hlk
    clear HLK
    go_enter Try.func17, Try.ntmps17
    go_wp2_with (go_at_call 19; refine HC.out.mono ?_; rintro e w' ⟨rfl, hw⟩; rw [hw])
    go_region_held3 (fun w' : World => w'.cell? ⟨a.b, 0, none⟩ = some (.map (some a.bm)) ∧ w'.cell? ⟨a.b, 1, none⟩ = some (.slice (some ⟨a.bw, 0, none⟩) n n) ∧ w'.cell? ⟨a.bw, c, none⟩ = some (.slice (some ⟨k, o, none⟩) l cap) ∧ w'.cell? ⟨k, o, none⟩ = some (.int .i64 x)) (first | assumption | go_keep) (fail)
    all_goals go_wp2_with fail
    all_goals go_ret
    all_goals exact ⟨rfl, (Gr.refl [] w).drew⟩
  | some d =>
    have hlk := HLK.out
    rw [← HQ.out] at hlk
    replace hlk : _ = Result.ok (Value.tuple #[.int .i64 (d : Int), .bool true]) w.drew := hlk
    clear HLK
    go_enter Try.func17, Try.ntmps17
    go_wp2_with (go_at_call 19; refine HC.out.mono ?_; rintro e w' ⟨rfl, hw⟩; rw [hw])
    go_region_held3 (fun w' : World => w'.cell? ⟨a.b, 0, none⟩ = some (.map (some a.bm)) ∧ w'.cell? ⟨a.b, 1, none⟩ = some (.slice (some ⟨a.bw, 0, none⟩) n n) ∧ w'.cell? ⟨a.bw, c, none⟩ = some (.slice (some ⟨k, o, none⟩) l cap) ∧ w'.cell? ⟨k, o, none⟩ = some (.int .i64 x)) (first | assumption | go_keep) (fail)
    all_goals go_wp2_with fail
    all_goals go_ret
    all_goals exact ⟨rfl, (Gr.refl [] w).drew⟩

end Go.Proofs.Ytlafmdpcabgcdaa
