/-
  Layer 24: New, where there may be locks.
-/
import Derived.Test.YtlafmdpcabgcdaaLkC
namespace Go.Proofs.Ytlafmdpcabgcdaa
open Go.RowKit

theorem infoLk : (Try.prog.info? 32).map (fun i => (i.zero, i.size, i.bytes)) = some (some (.slice none 0 0), 1, 24) := by kernel_rfl
theorem row_made (v : Value) (hv : Value.cells v = #[v]) (n : Nat) : (madeCells (Value.cells v) (n * 1)).toList.toArray = (Array.range n).map (fun _ => v) := by
  rw [made_one v hv]
  apply Array.ext
  · simp
  · intro i h1 h2
    simp
/-- 'make([][]int, n)'. -/
theorem lkmake (n : Nat) (hn : n ≤ 8) (W : World) :
    (Instr.makeSlice 49 (.int .i64 n) (.int .i64 n)).run Try.prog W = .ok (.slice (some ⟨W.heap.size, 0, none⟩) n n) (W.alloc (.cells ((Array.range n).map (fun _ => Value.slice none 0 0)) 32)) := by
  obtain ⟨i0, h0, hz0, hz1, hz2⟩ := info_parts infoLk
  have hbm2 : (i0.bytes : Int) * (n : Int) ≤ 281474976710656 := by rw [hz2]; omega
  have r := run_make (P := Try.prog) W 49 32 i0 (.slice none 0 0) Try.underlying49 h0 hz0 .i64 .i64 (n : Int) (n : Int) (by omega) (Int.le_refl _) hbm2 (by omega)
  simp only [Int.toNat_natCast, hz1] at r
  rw [r]
  have e := row_made (.slice none 0 0) rfl n
  rw [← e]
set_option maxRecDepth 100000 in
set_option maxHeartbeats 4000000 in
theorem new_ok (n : Nat) (w : World) (h1 : 1 ≤ n) (h8 : n ≤ 8) : Calls Try.prog 6 #[.int .i64 n] w fun e w' => ∃ a : LkA, e = .returned (.tuple #[.pointer (some ⟨a.b, 0, none⟩), .int .i64 0]) ∧ LkIs w' a n 0 (fun _ => .slice none 0 0) noneS ∧ Gr [] w w' ∧ ∀ b ∈ a.all, w.heap.size ≤ b := by
  have i1 : ¬ ((n : Int) < 1) := by omega
  have i8 : ¬ ((8 : Int) < (n : Int)) := by omega
  have hmm := @run_makeMap Try.prog
  have hms := lkmake n h8
  obtain ⟨R, hR⟩ : ∃ R, R = (Array.range n).map (fun _ => Value.slice none 0 0) := ⟨_, rfl⟩
  rw [← hR] at hms
  have HR := Lib.hid hR
  clear hR
  go_enter Try.func6, Try.ntmps6
  go_wp2_with fail
  go_ret2
  have a1 := MapZ.made (E := clE) (k := 3) w
  have b1 := (Gr.refl [] w).alloc (Obj.map #[] 0)
  have b2 := b1.alloc (Obj.cells R 32)
  have b3 := b2.alloc (Obj.cells #[.map (some w.heap.size), .slice (some ⟨w.heap.size + 1, 0, none⟩) n n] 55)
  have r2 := (Holds.new (w.alloc (Obj.map #[] 0)) R 32).alloc (Obj.cells #[.map (some w.heap.size), .slice (some ⟨w.heap.size + 1, 0, none⟩) n n] 55)
  have r3 := Holds.new ((w.alloc (Obj.map #[] 0)).alloc (Obj.cells R 32)) #[.map (some w.heap.size), .slice (some ⟨w.heap.size + 1, 0, none⟩) n n] 55
  rw [World.size_alloc] at r2
  rw [World.size_alloc, World.size_alloc] at r3
  refine ⟨⟨w.heap.size + 1 + 1, w.heap.size, w.heap.size + 1⟩, rfl, ⟨r3, ?_, ?_, fun c _ => ?_, ?_, noneS_ok n, ⟨h1, h8⟩, fun c x hx => by cases hx⟩, b3, ?_⟩
  · exact (a1.gr0 ((Gr.refl [] _).alloc (Obj.cells R 32))).gr0 ((Gr.refl [] _).alloc _)
  · rw [HR.out] at r2; rw [HR.out]; exact r2
  · exact ⟨none, 0, rfl, RdI.nil _ _, Nat.le_refl _, Nat.zero_le _, fun _ => rfl, fun k o e => by cases e⟩
  · simp [LkA.all]; omega
  · intro b hb
    simp [LkA.all] at hb
    omega

end Go.Proofs.Ytlafmdpcabgcdaa
