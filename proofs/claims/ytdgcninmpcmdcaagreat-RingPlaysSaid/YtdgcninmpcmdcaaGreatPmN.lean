/-
  pm.New.
-/
import Derived.Test.YtdgcninmpcmdcaaGreatMgA
namespace Go.Proofs.YtdgcninmpcmdcaaGreat
open Go.RowKit

theorem infoU64 : (Tryz.prog.info? 37).map (fun i => (i.zero, i.size, i.bytes)) = some (some (.int .u64 0), 1, 8) := by kernel_rfl
theorem infoI64 : (Tryz.prog.info? 3).map (fun i => (i.zero, i.size, i.bytes)) = some (some (.int .i64 0), 1, 8) := by kernel_rfl
theorem infoB : (Tryz.prog.info? 4).map (fun i => (i.zero, i.size, i.bytes)) = some (some (.bool false), 1, 1) := by kernel_rfl
/-- 'make([]T, m)' of a one-cell type, whatever the world. -/
theorem make_run {t e : TypeId} (v : Value) (bytes m : Nat) (mI : Int) (hmI : mI = m) (ht : Tryz.prog.underlying t = some (.slice e)) (hi : (Tryz.prog.info? e).map (fun i => (i.zero, i.size, i.bytes)) = some (some v, 1, bytes)) (hv : Value.cells v = #[v]) (hb : bytes ≤ 8) (hm : m ≤ 65536) (W : World) :
    (Instr.makeSlice t (.int .i64 mI) (.int .i64 mI)).run Tryz.prog W = .ok (.slice (some ⟨W.heap.size, 0, none⟩) m m) (W.alloc (.cells (rowOf (fun _ => v) m) e)) := by
  subst hmI
  obtain ⟨i0, h0, hz0, hz1, hz2⟩ := info_parts hi
  have hbm : i0.bytes * m ≤ 8 * 65536 := Nat.mul_le_mul (by omega) hm
  have hbm2 : (i0.bytes : Int) * (m : Int) ≤ 281474976710656 := by
    have q : ((i0.bytes * m : Nat) : Int) ≤ 8 * 65536 := by omega
    rw [Int.natCast_mul] at q
    omega
  have r := run_make (P := Tryz.prog) W t e i0 v ht h0 hz0 .i64 .i64 (m : Int) (m : Int) (by omega) (Int.le_refl _) hbm2 (by omega)
  simp only [Int.toNat_natCast, hz1] at r
  rw [r]
  have e := rowOf_made v hv m
  rw [← e]
def newD (n : Nat) : DevS := { n := n, med := fun _ => 0, buf := fun _ => none, wear := fun _ => 0, bad := fun _ => false, fuse := 0, off := false, cnt := 0 }
theorem newD_ok (n : Nat) (h1 : 1 ≤ n) (h2 : n ≤ 8192) : DevOk (newD n) := ⟨h1, h2, (fun z h => absurd rfl h), (fun _ => by simp [newD]), (fun z p h => by cases h), (by simp [newD])⟩

theorem pmnew_no (n : Int) (w : World) (h : n < 1 ∨ 8192 < n) :
    Calls Tryz.prog 22 #[.int .i64 n] w fun e w' => e = .returned (.tuple #[.pointer none, .int .i64 2]) ∧ w = w' := by
  rcases h with h | h
  · go_enter Tryz.func22, Tryz.ntmps22
    go_wp2
    go_ret2
    exact ⟨rfl, rfl⟩
  · have h' : ¬ n < 1 := by omega
    go_enter Tryz.func22, Tryz.ntmps22
    go_wp2
    go_ret2
    exact ⟨rfl, rfl⟩
section
variable (w : World) (A B C D H : Obj)
theorem five0 : ((((((w.alloc A).alloc B).alloc C).alloc D).alloc H).drew).heap[w.heap.size]? = some A := by
  show (((((w.heap.push A).push B).push C).push D).push H)[w.heap.size]? = some A
  rw [Array.getElem?_push, if_neg (by simp only [Array.size_push]; omega), Array.getElem?_push, if_neg (by simp only [Array.size_push]; omega), Array.getElem?_push, if_neg (by simp only [Array.size_push]; omega), Array.getElem?_push, if_neg (by simp only [Array.size_push]; omega), Array.getElem?_push, if_pos rfl]
theorem five1 : ((((((w.alloc A).alloc B).alloc C).alloc D).alloc H).drew).heap[w.heap.size + 1]? = some B := by
  show (((((w.heap.push A).push B).push C).push D).push H)[w.heap.size + 1]? = some B
  rw [Array.getElem?_push, if_neg (by simp only [Array.size_push]; omega), Array.getElem?_push, if_neg (by simp only [Array.size_push]; omega), Array.getElem?_push, if_neg (by simp only [Array.size_push]; omega), Array.getElem?_push, if_pos (by simp only [Array.size_push])]
theorem five2 : ((((((w.alloc A).alloc B).alloc C).alloc D).alloc H).drew).heap[w.heap.size + 1 + 1]? = some C := by
  show (((((w.heap.push A).push B).push C).push D).push H)[w.heap.size + 1 + 1]? = some C
  rw [Array.getElem?_push, if_neg (by simp only [Array.size_push]; omega), Array.getElem?_push, if_neg (by simp only [Array.size_push]; omega), Array.getElem?_push, if_pos (by simp only [Array.size_push])]
theorem five3 : ((((((w.alloc A).alloc B).alloc C).alloc D).alloc H).drew).heap[w.heap.size + 1 + 1 + 1]? = some D := by
  show (((((w.heap.push A).push B).push C).push D).push H)[w.heap.size + 1 + 1 + 1]? = some D
  rw [Array.getElem?_push, if_neg (by simp only [Array.size_push]; omega), Array.getElem?_push, if_pos (by simp only [Array.size_push])]
theorem five4 : ((((((w.alloc A).alloc B).alloc C).alloc D).alloc H).drew).heap[w.heap.size + 1 + 1 + 1 + 1]? = some H := by
  show (((((w.heap.push A).push B).push C).push D).push H)[w.heap.size + 1 + 1 + 1 + 1]? = some H
  rw [Array.getElem?_push, if_pos (by simp only [Array.size_push])]
end
theorem new_fin {w W : World} {n b4 bm bb bw bg : Nat} {R1 R2 R3 : Array Value} (h1 : 1 ≤ n) (h2 : n ≤ 8192) (HR : rowOf (fun _ => Value.int .u64 0) (8 * n) = R1 ∧ rowOf (fun _ => Value.int .i64 0) n = R2 ∧ rowOf (fun _ => Value.bool false) n = R3)
    (hH : W.heap[b4]? = some (.cells #[.slice (some ⟨bm, 0, none⟩) (8 * n) (8 * n), .map (some bb), .slice (some ⟨bw, 0, none⟩) n n, .slice (some ⟨bg, 0, none⟩) n n, .int .i64 0, .bool false, .int .i64 0] 106))
    (q1 : W.heap[bm]? = some (.cells R1 37)) (q2 : W.heap[bb]? = some (.map #[] 0)) (q3 : W.heap[bw]? = some (.cells R2 3)) (q4 : W.heap[bg]? = some (.cells R3 4))
    (nd : [b4, bm, bb, bw, bg].Nodup) (lo : ∀ b ∈ [b4, bm, bb, bw, bg], w.heap.size ≤ b) (g : Gr [] w W) :
    DevIs W ⟨b4, bm, bb, bw, bg⟩ (newD n) ∧ (∀ b ∈ (DevA.mk b4 bm bb bw bg).all, w.heap.size ≤ b) ∧ Gr [] w W := by
  obtain ⟨rfl, rfl, rfl⟩ := HR
  refine ⟨⟨hH, q1, q3, q4, ?_, nd, newD_ok n h1 h2⟩, lo, g⟩
  exact ⟨.map [], ⟨#[], 0, q2, ⟨by simp, MapKept.stamped_empty 0, by simp⟩, Nat.le_refl _, rfl⟩, MIs.empty⟩
set_option maxRecDepth 20000 in
set_option maxHeartbeats 4000000 in
theorem pmnew_yes (n : Nat) (w : World) (h1 : 1 ≤ n) (h2 : n ≤ 8192) :
    Calls Tryz.prog 22 #[.int .i64 n] w fun e w' => ∃ a : DevA, e = .returned (.tuple #[.pointer (some ⟨a.bd, 0, none⟩), .int .i64 0]) ∧ DevIs w' a (newD n) ∧ (∀ b ∈ a.all, w.heap.size ≤ b) ∧ Gr [] w w' := by
  have m1 := fun W => make_run (.int .u64 0) 8 (8 * n) ((n : Int) * 8) (by omega) Tryz.underlying103 infoU64 rfl (by omega) (by omega) W
  have m2 := fun W => make_run (.int .i64 0) 8 n (n : Int) rfl Tryz.underlying52 infoI64 rfl (by omega) (by omega) W
  have m3 := fun W => make_run (.bool false) 1 n (n : Int) rfl Tryz.underlying38 infoB rfl (by omega) (by omega) W
  have hmm := @run_makeMap Tryz.prog
  generalize hr1 : rowOf (fun _ => Value.int .u64 0) (8 * n) = R1 at *
  generalize hr2 : rowOf (fun _ => Value.int .i64 0) n = R2 at *
  generalize hr3 : rowOf (fun _ => Value.bool false) n = R3 at *
  have HR := Lib.hid (And.intro hr1 (And.intro hr2 hr3))
  clear hr1 hr2 hr3
  have hd1 : decide ((n : Int) < 1) = false := by simp; omega
  have hd2 : decide ((8192 : Int) < (n : Int)) = false := by simp; omega
  go_enter Tryz.func22, Tryz.ntmps22
  go_wp2_with fail
  go_region
  all_goals go_wp2
  all_goals go_ret2
  all_goals
    refine ⟨⟨_, _, _, _, _⟩, rfl, new_fin (w := w) h1 h2 HR.out (five4 w _ _ _ _ _) ?_ ?_ ?_ ?_ ?_ ?_ ?_⟩
    · first | exact five0 w _ _ _ _ _ | exact five1 w _ _ _ _ _ | exact five2 w _ _ _ _ _ | exact five3 w _ _ _ _ _
    · first | exact five0 w _ _ _ _ _ | exact five1 w _ _ _ _ _ | exact five2 w _ _ _ _ _ | exact five3 w _ _ _ _ _
    · first | exact five0 w _ _ _ _ _ | exact five1 w _ _ _ _ _ | exact five2 w _ _ _ _ _ | exact five3 w _ _ _ _ _
    · first | exact five0 w _ _ _ _ _ | exact five1 w _ _ _ _ _ | exact five2 w _ _ _ _ _ | exact five3 w _ _ _ _ _
    · simp only [List.nodup_cons, List.mem_cons, List.not_mem_nil, or_false, not_or, List.nodup_nil, and_true, not_false_eq_true]; omega
    · intro b hb; simp only [List.mem_cons, List.not_mem_nil, or_false] at hb; omega
    · exact ((((((Gr.refl _ _).alloc _).alloc _).alloc _).alloc _).alloc _).drew

end Go.Proofs.YtdgcninmpcmdcaaGreat
