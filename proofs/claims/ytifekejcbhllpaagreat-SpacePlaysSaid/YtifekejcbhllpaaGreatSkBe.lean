/-
  SkBe: HtB, HtC, FlW, FlXa.
-/
import Derived.Test.YtifekejcbhllpaaGreatSkBd
import Derived.Test.YtifekejcbhllpaaGreatSkAi
import Derived.Deep.RegionHeld3
import Derived.BigRegion

set_option linter.unusedVariables false

/-
  Layer 10: the free frames in memory, as a heap: Len, Less, Swap, Pop.
-/
namespace Go.Proofs.YtifekejcbhllpaaGreat
open Go.RowKit
set_option linter.unusedVariables false

theorem inv_len10 (x : Value) (w : World) : (invoke (.fn (.method "Len") #[]) #[.iface 206 x]).run Tryz.prog w = .ok (.enter 151 #[x]) w := by kernel_rfl
theorem inv_less10 (x i j : Value) (w : World) : (invoke (.fn (.method "Less") #[]) #[.iface 206 x, i, j]).run Tryz.prog w = .ok (.enter 204 #[x, i, j]) w := by kernel_rfl
theorem inv_swap10 (x i j : Value) (w : World) : (invoke (.fn (.method "Swap") #[]) #[.iface 206 x, i, j]).run Tryz.prog w = .ok (.enter 206 #[x, i, j]) w := by kernel_rfl
theorem inv_pop10 (x : Value) (w : World) : (invoke (.fn (.method "Pop") #[]) #[.iface 206 x]).run Tryz.prog w = .ok (.enter 205 #[x]) w := by kernel_rfl
def frV (k : Nat) : Value := .int .i64 ((k % 65536 : Nat) : Int)
def mvV (k : Nat) : Value := .int .u32 ((k / 65536 : Nat) : Int)
/-- n free frames in memory, told by keys. -/
structure SpIs (w : World) (hb lb n cap : Nat) (K : Nat → Nat) : Prop where
  head : Holds w hb #[.slice (some ⟨lb, 0, none⟩) n cap] 209
  row : ∃ cur : Array Value, Holds w lb cur 192 ∧ ∀ i, i < n → cur[i * 2]? = some (frV (K i)) ∧ cur[i * 2 + 1]? = some (mvV (K i))
  ne : hb ≠ lb
  hi : n ≤ cap
  hn : n ≤ 70000
section
variable {w w' : World} {hb lb n cap i j : Nat} {K : Nat → Nat}
theorem SpIs.gr {bs : List Nat} (h : SpIs w hb lb n cap K) (k : Gr bs w w') (h1 : hb ∉ bs) (h2 : lb ∉ bs) : SpIs w' hb lb n cap K := by
  obtain ⟨a1, ⟨cur, a2, a3⟩, a4, a5, a6⟩ := h
  exact ⟨a1.gr k h1, ⟨cur, a2.gr k h2, a3⟩, a4, a5, a6⟩
theorem SpIs.gr0 (h : SpIs w hb lb n cap K) (k : Gr [] w w') : SpIs w' hb lb n cap K := h.gr k (by simp) (by simp)
theorem SpIs.c0 (h : SpIs w hb lb n cap K) : w.cell? ⟨hb, 0, none⟩ = some (.slice (some ⟨lb, 0, none⟩) n cap) := h.head.cell 0
theorem SpIs.at (h : SpIs w hb lb n cap K) (hi : i < n) : w.cell? ⟨lb, i * 2, none⟩ = some (frV (K i)) ∧ w.cell? ⟨lb, i * 2 + 1, none⟩ = some (mvV (K i)) := by
  obtain ⟨cur, a2, a3⟩ := h.row
  exact ⟨(a2.cell _).trans (a3 i hi).1, (a2.cell _).trans (a3 i hi).2⟩
theorem SpIs.fz (h : SpIs w hb lb n cap K) (o : Nat) : w.frozen? ⟨lb, o, none⟩ = false := by
  obtain ⟨cur, a2, a3⟩ := h.row
  exact a2.frozen o
theorem SpIs.swap (h : SpIs w hb lb n cap K) (hi : i < n) (hj : j < n) : SpIs ((((w.setCell ⟨lb, i * 2, none⟩ (frV (K j))).setCell ⟨lb, i * 2 + 1, none⟩ (mvV (K j))).setCell ⟨lb, j * 2, none⟩ (frV (K i))).setCell ⟨lb, j * 2 + 1, none⟩ (mvV (K i))) hb lb n cap (swapK K i j) := by
  obtain ⟨a1, ⟨cur, a2, a3⟩, a4, a5, a6⟩ := h
  refine ⟨(((a1.far (a := ⟨lb, i * 2, none⟩) a4 _).far (a := ⟨lb, i * 2 + 1, none⟩) a4 _).far (a := ⟨lb, j * 2, none⟩) a4 _).far (a := ⟨lb, j * 2 + 1, none⟩) a4 _, ⟨_, (((a2.set (i * 2) _).set (i * 2 + 1) _).set (j * 2) _).set (j * 2 + 1) _, fun k hk => ?_⟩, a4, a5, a6⟩
  have hs : ∀ q, q < n → q * 2 + 1 < cur.size := fun q hq => (Array.getElem?_eq_some_iff.1 (a3 q hq).2).1
  have h1 := hs i hi
  have h2 := hs j hj
  have h3 := hs k hk
  obtain ⟨k1, k2⟩ := a3 k hk
  unfold swapK
  simp only [Array.getElem?_setIfInBounds, Array.size_setIfInBounds]
  by_cases e2 : k = j
  · subst e2
    by_cases e1 : k = i
    · subst e1
      simp [h1, show k * 2 < cur.size by omega]
    · rw [if_neg e1, if_pos rfl]
      simp [h2, show k * 2 < cur.size by omega]
  · by_cases e1 : k = i
    · subst e1
      rw [if_pos rfl]
      have d1 : ¬ j * 2 + 1 = k * 2 := by omega
      have d2 : ¬ j * 2 = k * 2 := by omega
      have d3 : ¬ j * 2 + 1 = k * 2 + 1 := by omega
      have d4 : ¬ j * 2 = k * 2 + 1 := by omega
      have d5 : ¬ k * 2 + 1 = k * 2 := by omega
      rw [if_neg d1, if_neg d2, if_neg d5, if_pos rfl, if_neg d3, if_neg d4, if_pos rfl, if_pos (by omega), if_pos (by omega)]
      exact ⟨rfl, rfl⟩
    · rw [if_neg e1, if_neg e2]
      have d1 : ¬ j * 2 + 1 = k * 2 := by omega
      have d2 : ¬ j * 2 = k * 2 := by omega
      have d3 : ¬ j * 2 + 1 = k * 2 + 1 := by omega
      have d4 : ¬ j * 2 = k * 2 + 1 := by omega
      have d5 : ¬ i * 2 + 1 = k * 2 := by omega
      have d6 : ¬ i * 2 = k * 2 := by omega
      have d7 : ¬ i * 2 + 1 = k * 2 + 1 := by omega
      have d8 : ¬ i * 2 = k * 2 + 1 := by omega
      rw [if_neg d1, if_neg d2, if_neg d5, if_neg d6, if_neg d3, if_neg d4, if_neg d7, if_neg d8]
      exact ⟨k1, k2⟩
theorem slen_any (h : SpIs w hb lb n cap K) : Calls Tryz.prog 151 #[.pointer (some ⟨hb, 0, none⟩)] w fun e w' => e = .returned (.int .i64 (n : Int)) ∧ w' = w := by
  have c0 := h.c0
  clear h
  go_enter Tryz.func151, Tryz.ntmps151
  go_wp2_with fail
  go_ret
  exact ⟨rfl, rfl⟩
set_option maxRecDepth 100000 in
set_option maxHeartbeats 8000000 in
theorem sswap_any (h : SpIs w hb lb n cap K) (hi : i < n) (hj : j < n) : Calls Tryz.prog 206 #[.pointer (some ⟨hb, 0, none⟩), .int .i64 (i : Int), .int .i64 (j : Int)] w fun e w' => e = .returned (.tuple #[]) ∧ SpIs w' hb lb n cap (swapK K i j) ∧ Gr [lb] w w' := by
  have c0 := h.c0
  have hn := h.hn
  have hlb : lb ≠ hb := fun e => h.ne e.symm
  have HS := Lib.hid (h.swap hi hj)
  have HG := Lib.hid (show Gr [lb] w ((((w.setCell ⟨lb, i * 2, none⟩ (frV (K j))).setCell ⟨lb, i * 2 + 1, none⟩ (mvV (K j))).setCell ⟨lb, j * 2, none⟩ (frV (K i))).setCell ⟨lb, j * 2 + 1, none⟩ (mvV (K i))) from ((((Gr.refl [lb] w).setCell (p := ⟨lb, i * 2, none⟩) (.inl (by simp)) _).setCell (p := ⟨lb, i * 2 + 1, none⟩) (.inl (by simp)) _).setCell (p := ⟨lb, j * 2, none⟩) (.inl (by simp)) _).setCell (p := ⟨lb, j * 2 + 1, none⟩) (.inl (by simp)) _)
  obtain ⟨i0, i1⟩ := h.at hi
  obtain ⟨j0, j1⟩ := h.at hj
  have f0 := h.fz (i * 2)
  have f1 := h.fz (i * 2 + 1)
  have f2 := h.fz (j * 2)
  have f3 := h.fz (j * 2 + 1)
  have hi1 : (i : Int) < (n : Int) := by omega
  have hi2 : (0 : Int) ≤ (i : Int) := by omega
  have hj1 : (j : Int) < (n : Int) := by omega
  have hj2 : (0 : Int) ≤ (j : Int) := by omega
  unfold frV mvV at *
  clear h
  by_cases hij : i = j
  · subst hij
    generalize K i % 65536 = fi at *
    generalize K i / 65536 = mi at *
    go_enter Tryz.func206, Tryz.ntmps206
    go_region
    all_goals go_wp2_with fail
    all_goals go_returns
    all_goals exact ⟨rfl, HS.out.gr0 (by repeat (first | exact Gr.refl _ _ | refine Gr.drew ?_)), (by repeat (first | exact HG.out | refine Gr.drew ?_))⟩
  · have d1 : ¬ j = i := fun e => hij e.symm
    have d2 : ¬ i * 2 + 1 = j * 2 := by omega
    have d3 : ¬ j * 2 = i * 2 + 1 := by omega
    have d4 : ¬ i * 2 = j * 2 + 1 := by omega
    have d5 : ¬ j * 2 + 1 = i * 2 := by omega
    have d6 : ¬ i * 2 = j * 2 := by omega
    have d7 : ¬ j * 2 = i * 2 := by omega
    generalize K i % 65536 = fi at *
    generalize K i / 65536 = mi at *
    generalize K j % 65536 = fj at *
    generalize K j / 65536 = mj at *
    go_enter Tryz.func206, Tryz.ntmps206
    go_region
    all_goals go_wp2_with fail
    all_goals go_returns
    all_goals exact ⟨rfl, HS.out.gr0 (by repeat (first | exact Gr.refl _ _ | refine Gr.drew ?_)), (by repeat (first | exact HG.out | refine Gr.drew ?_))⟩
theorem keepS {W W' : World} {b1 b2 o1 o2 o3 o4 : Nat} {x0 x1 x2 x3 x4 : Value} (h : W.cell? ⟨b1, 0, none⟩ = some x0 ∧ W.cell? ⟨b2, o1, none⟩ = some x1 ∧ W.cell? ⟨b2, o2, none⟩ = some x2 ∧ W.cell? ⟨b2, o3, none⟩ = some x3 ∧ W.cell? ⟨b2, o4, none⟩ = some x4) (g : Gr [] W W') : W'.cell? ⟨b1, 0, none⟩ = some x0 ∧ W'.cell? ⟨b2, o1, none⟩ = some x1 ∧ W'.cell? ⟨b2, o2, none⟩ = some x2 ∧ W'.cell? ⟨b2, o3, none⟩ = some x3 ∧ W'.cell? ⟨b2, o4, none⟩ = some x4 :=
  have hb := World.block_lt_of_cell? W _ h.1
  have hb2 := World.block_lt_of_cell? W _ h.2.1
  ⟨(g.cell0 hb).trans h.1, (g.cell0 hb2).trans h.2.1, (g.cell0 hb2).trans h.2.2.1, (g.cell0 hb2).trans h.2.2.2.1, (g.cell0 hb2).trans h.2.2.2.2⟩
theorem kAs {W : World} {b1 b2 o1 o2 o3 o4 : Nat} {x0 x1 x2 x3 x4 : Value} {o : Obj} (h : W.cell? ⟨b1, 0, none⟩ = some x0 ∧ W.cell? ⟨b2, o1, none⟩ = some x1 ∧ W.cell? ⟨b2, o2, none⟩ = some x2 ∧ W.cell? ⟨b2, o3, none⟩ = some x3 ∧ W.cell? ⟨b2, o4, none⟩ = some x4) : (W.alloc o).cell? ⟨b1, 0, none⟩ = some x0 ∧ (W.alloc o).cell? ⟨b2, o1, none⟩ = some x1 ∧ (W.alloc o).cell? ⟨b2, o2, none⟩ = some x2 ∧ (W.alloc o).cell? ⟨b2, o3, none⟩ = some x3 ∧ (W.alloc o).cell? ⟨b2, o4, none⟩ = some x4 := keepS h ((Gr.refl [] W).alloc o)
theorem kDs {W : World} {b1 b2 o1 o2 o3 o4 : Nat} {x0 x1 x2 x3 x4 : Value} (h : W.cell? ⟨b1, 0, none⟩ = some x0 ∧ W.cell? ⟨b2, o1, none⟩ = some x1 ∧ W.cell? ⟨b2, o2, none⟩ = some x2 ∧ W.cell? ⟨b2, o3, none⟩ = some x3 ∧ W.cell? ⟨b2, o4, none⟩ = some x4) : W.drew.cell? ⟨b1, 0, none⟩ = some x0 ∧ W.drew.cell? ⟨b2, o1, none⟩ = some x1 ∧ W.drew.cell? ⟨b2, o2, none⟩ = some x2 ∧ W.drew.cell? ⟨b2, o3, none⟩ = some x3 ∧ W.drew.cell? ⟨b2, o4, none⟩ = some x4 := h
theorem kSs {W : World} {b1 b2 o1 o2 o3 o4 n i : Nat} {x0 x1 x2 x3 x4 v : Value} (h : W.cell? ⟨b1, 0, none⟩ = some x0 ∧ W.cell? ⟨b2, o1, none⟩ = some x1 ∧ W.cell? ⟨b2, o2, none⟩ = some x2 ∧ W.cell? ⟨b2, o3, none⟩ = some x3 ∧ W.cell? ⟨b2, o4, none⟩ = some x4) (h1 : n ≠ b1) (h2 : n ≠ b2) : (W.setCell ⟨n, i, none⟩ v).cell? ⟨b1, 0, none⟩ = some x0 ∧ (W.setCell ⟨n, i, none⟩ v).cell? ⟨b2, o1, none⟩ = some x1 ∧ (W.setCell ⟨n, i, none⟩ v).cell? ⟨b2, o2, none⟩ = some x2 ∧ (W.setCell ⟨n, i, none⟩ v).cell? ⟨b2, o3, none⟩ = some x3 ∧ (W.setCell ⟨n, i, none⟩ v).cell? ⟨b2, o4, none⟩ = some x4 := by
  have g := grSet W n i v
  have hb := World.block_lt_of_cell? W _ h.1
  have hb2 := World.block_lt_of_cell? W _ h.2.1
  have n1 : b1 ∉ [n] := by simp; omega
  have n2 : b2 ∉ [n] := by simp; omega
  exact ⟨(cell_gr7 g hb n1).trans h.1, (cell_gr7 g hb2 n2).trans h.2.1, (cell_gr7 g hb2 n2).trans h.2.2.1, (cell_gr7 g hb2 n2).trans h.2.2.2.1, (cell_gr7 g hb2 n2).trans h.2.2.2.2⟩
set_option maxRecDepth 100000 in
set_option maxHeartbeats 8000000 in
theorem sless_any (h : SpIs w hb lb n cap K) (hi : i < n) (hj : j < n) : Calls Tryz.prog 204 #[.pointer (some ⟨hb, 0, none⟩), .int .i64 (i : Int), .int .i64 (j : Int)] w fun e w' => e = .returned (.bool (decide (K i < K j))) ∧ Gr [] w w' := by
  have c0 := h.c0
  have hn := h.hn
  obtain ⟨i0, i1⟩ := h.at hi
  obtain ⟨j0, j1⟩ := h.at hj
  have hbl := h.head.lt
  have hll := World.block_lt_of_cell? w _ i0
  have hi1 : (i : Int) < (n : Int) := by omega
  have hi2 : (0 : Int) ≤ (i : Int) := by omega
  have hj1 : (j : Int) < (n : Int) := by omega
  have hj2 : (0 : Int) ≤ (j : Int) := by omega
  clear h
  unfold frV mvV at *
  have e1 : K i = K i / 65536 * 65536 + K i % 65536 := by omega
  have e2 : K j = K j / 65536 * 65536 + K j % 65536 := by omega
  have l1 := Nat.mod_lt (K i) (show 0 < 65536 by omega)
  have l2 := Nat.mod_lt (K j) (show 0 < 65536 by omega)
  generalize K i % 65536 = fi at *
  generalize K i / 65536 = mi at *
  generalize K j % 65536 = fj at *
  generalize K j / 65536 = mj at *
  rw [e1, e2]
  clear e1 e2
  have HS : w.cell? ⟨hb, 0, none⟩ = some (.slice (some ⟨lb, 0, none⟩) n cap) ∧ w.cell? ⟨lb, i * 2, none⟩ = some (.int .i64 (fi : Int)) ∧ w.cell? ⟨lb, i * 2 + 1, none⟩ = some (.int .u32 (mi : Int)) ∧ w.cell? ⟨lb, j * 2, none⟩ = some (.int .i64 (fj : Int)) ∧ w.cell? ⟨lb, j * 2 + 1, none⟩ = some (.int .u32 (mj : Int)) := ⟨c0, i0, i1, j0, j1⟩
  have hcase : (mi < mj ∧ decide (mi * 65536 + fi < mj * 65536 + fj) = true) ∨ (mj < mi ∧ decide (mi * 65536 + fi < mj * 65536 + fj) = false) ∨ (mi = mj ∧ fi < fj ∧ decide (mi * 65536 + fi < mj * 65536 + fj) = true) ∨ (mi = mj ∧ ¬ fi < fj ∧ decide (mi * 65536 + fi < mj * 65536 + fj) = false) := by
    rcases Nat.lt_trichotomy mi mj with h | h | h
    · exact .inl ⟨h, decide_eq_true (by omega)⟩
    · by_cases h2 : fi < fj
      · exact .inr (.inr (.inl ⟨h, h2, decide_eq_true (by omega)⟩))
      · exact .inr (.inr (.inr ⟨h, h2, decide_eq_false (by omega)⟩))
    · exact .inr (.inl ⟨h, decide_eq_false (by omega)⟩)
  generalize decide (mi * 65536 + fi < mj * 65536 + fj) = bb at *
  go_enter Tryz.func204, Tryz.ntmps204
  go_upto_region 1 with fail
  have HSd := kDs HS
  go_region_held3 (fun w' : World => w'.cell? ⟨hb, 0, none⟩ = some (.slice (some ⟨lb, 0, none⟩) n cap) ∧ w'.cell? ⟨lb, i * 2, none⟩ = some (.int .i64 (fi : Int)) ∧ w'.cell? ⟨lb, i * 2 + 1, none⟩ = some (.int .u32 (mi : Int)) ∧ w'.cell? ⟨lb, j * 2, none⟩ = some (.int .i64 (fj : Int)) ∧ w'.cell? ⟨lb, j * 2 + 1, none⟩ = some (.int .u32 (mj : Int))) (with_reducible (first | assumption | ((repeat (first | assumption | refine kDs ?_ | refine kAs ?_ | refine kSs ?_ (by omega) (by omega))); done))) (fail)
  all_goals
    rcases hcase with ⟨h1, h2⟩ | ⟨h1, h2⟩ | ⟨h1, h3, h2⟩ | ⟨h1, h3, h2⟩
    · have q1 : (mi != mj) = true := by simp; omega
      subst h2
      go_wp2_with fail
      go_ret
      exact ⟨by simp, by repeat (first | exact Gr.refl _ _ | refine Gr.setCell ?_ (.inr (by (try dsimp only); omega)) _ | refine Gr.alloc ?_ _ | refine Gr.drew ?_)⟩
    · have q1 : (mi != mj) = true := by simp; omega
      have q2 : ¬ mi < mj := by omega
      subst h2
      go_wp2_with fail
      go_ret
      exact ⟨by simp, by repeat (first | exact Gr.refl _ _ | refine Gr.setCell ?_ (.inr (by (try dsimp only); omega)) _ | refine Gr.alloc ?_ _ | refine Gr.drew ?_)⟩
    · subst h1
      subst h2
      go_wp2_with fail
      go_ret
      exact ⟨by simp, by repeat (first | exact Gr.refl _ _ | refine Gr.setCell ?_ (.inr (by (try dsimp only); omega)) _ | refine Gr.alloc ?_ _ | refine Gr.drew ?_)⟩
    · subst h1
      subst h2
      go_wp2_with fail
      go_ret
      exact ⟨by simp, by repeat (first | exact Gr.refl _ _ | refine Gr.setCell ?_ (.inr (by (try dsimp only); omega)) _ | refine Gr.alloc ?_ _ | refine Gr.drew ?_)⟩
end
end Go.Proofs.YtifekejcbhllpaaGreat

/-
  Layer 10: the heap of free frames: down, Init, Pop.
-/
namespace Go.Proofs.YtifekejcbhllpaaGreat
open Go.RowKit
set_option linter.unusedVariables false

section
variable {w w' : World} {hb lb n cap n0 i0 : Nat} {K : Nat → Nat}
set_option maxRecDepth 100000 in
set_option maxHeartbeats 8000000 in
theorem sdown_any (h : SpIs w hb lb n cap K) (hn0 : n0 ≤ n) (hi0 : i0 < n0 ∨ i0 = 0) (hx : HpX K n0 i0 i0) : Calls Tryz.prog 173 #[.iface 206 (.pointer (some ⟨hb, 0, none⟩)), .int .i64 (i0 : Int), .int .i64 (n0 : Int)] w fun e w' => ∃ (b : Bool) (K' : Nat → Nat), e = .returned (.bool b) ∧ SpIs w' hb lb n cap K' ∧ Hp K' n0 i0 ∧ (∀ v, ImgK K' n0 v ↔ ImgK K n0 v) ∧ (∀ k, n0 ≤ k → K' k = K k) ∧ Gr [lb] w w' := by
  have hn7 := h.hn
  have v1 := inv_less10
  have v2 := inv_swap10
  have H0 := Lib.hid (And.intro h hx)
  clear h hx
  go_enter Tryz.func173, Tryz.ntmps173
  go_wp2_with fail
  go_loopw [7] (fun iv wr => ∃ (i : Nat) (K' : Nat → Nat), iv = .int .i64 (i : Int) ∧ i0 ≤ i ∧ (i < n0 ∨ i = 0) ∧ SpIs wr hb lb n cap K' ∧ HpX K' n0 i0 i ∧ (∀ v, ImgK K' n0 v ↔ ImgK K n0 v) ∧ (∀ k, n0 ≤ k → K' k = K k) ∧ Gr [lb] w wr) (fun iv _ => n0 - (intOf iv).toNat)
  case atStart => exact ⟨i0, K, rfl, Nat.le_refl _, hi0, H0.out.1, H0.out.2, fun _ => Iff.rfl, fun _ _ => rfl, Gr.refl _ _⟩
  case round =>
    clear H0
    obtain ⟨i, K', rfl, h1, h2, h3, h4, h5, h6, h7⟩ := hrel
    have HS := Lib.hid (And.intro h3 (And.intro h4 (And.intro h5 (And.intro h6 h7))))
    clear h3 h4 h5 h6 h7
    have hi7 : i ≤ 70000 := by omega
    have w1 : IntKind.i64.wrap (2 * (i : Int)) = 2 * (i : Int) := IntWalk.i64_in _ (by omega)
    obtain ⟨j1, hj1⟩ : ∃ j1 : Nat, j1 = 2 * i + 1 := ⟨_, rfl⟩
    have w2 : IntKind.i64.wrap (2 * (i : Int) + 1) = (j1 : Int) := by rw [hj1]; exact IntWalk.i64_in _ (by omega)
    have HJ := Lib.hid hj1
    have hj0 : (0 : Int) ≤ (j1 : Int) := by omega
    by_cases hb1 : n0 ≤ j1
    · have HB := Lib.hid hb1
      clear hj1
      go_wp2_with fail
      go_ret
      exact ⟨_, K', rfl, HS.out.1, HS.out.2.1.stop (fun c q1 q2 => by have := HJ.out; have := HB.out; omega), HS.out.2.2.1, HS.out.2.2.2.1, HS.out.2.2.2.2⟩
    · have hb2 : (j1 : Int) < (n0 : Int) := by omega
      have hin : i < n0 := by omega
      obtain ⟨j2, hj2⟩ : ∃ j2 : Nat, j2 = j1 + 1 := ⟨_, rfl⟩
      have w3 : IntKind.i64.wrap ((j1 : Int) + 1) = (j2 : Int) := by rw [hj2]; exact IntWalk.i64_in _ (by omega)
      have HJ2 := Lib.hid hj2
      have HB := Lib.hid (show i < n0 ∧ j1 < n0 ∧ n0 ≤ n by omega)
      clear hj1 hj2
      by_cases hb3 : j2 < n0
      · have hb4 : (j2 : Int) < (n0 : Int) := by omega
        have HL2 := Lib.hid (fun W (s : SpIs W hb lb n cap K') => sless_any (i := j2) (j := j1) s (by have := HB.out; omega) (by have := HB.out; omega))
        have HB3 := Lib.hid hb3
        by_cases hc : K' j2 < K' j1
        · rw [decide_eq_true hc] at HL2
          have HC := Lib.hid hc
          clear hc
          go_wp2_with fail
          refine (HL2.out _ HS.out.1).mono ?_
          rintro e w5 ⟨rfl, g5⟩
          have HS := Lib.hid (And.intro (HS.out.1.gr0 g5) (And.intro HS.out.2.1 (And.intro HS.out.2.2.1 (And.intro HS.out.2.2.2.1 (HS.out.2.2.2.2.nextN g5 (by simp))))))
          have HM := Lib.hid (show (j2 = 2 * i + 1 ∨ j2 = 2 * i + 2) ∧ j2 < n0 ∧ ∀ c, c < n0 → (c = 2 * i + 1 ∨ c = 2 * i + 2) → K' j2 ≤ K' c from ⟨by have := HJ.out; have := HJ2.out; omega, HB3.out, fun c q1 q2 => by
            have := HC.out
            have e1 := HJ.out
            have e2 := HJ2.out
            rcases q2 with q2 | q2
            · rw [q2, ← e1]; omega
            · rw [show c = j2 by omega]; omega⟩)
          clear g5 HL2
          have HL3 := Lib.hid (fun W (s : SpIs W hb lb n cap K') => sless_any (i := j2) (j := i) s (by have := HM.out.2.1; have := HB.out; omega) (by have := HB.out; omega))
          by_cases hd : K' j2 < K' i
          · rw [decide_eq_true hd] at HL3
            have HD := Lib.hid hd
            clear hd
            go_wp2_with fail
            refine (HL3.out _ HS.out.1).mono ?_
            rintro e w6 ⟨rfl, g6⟩
            have HS := Lib.hid (And.intro (HS.out.1.gr0 g6) (And.intro HS.out.2.1 (And.intro HS.out.2.2.1 (And.intro HS.out.2.2.2.1 (HS.out.2.2.2.2.nextN g6 (by simp))))))
            clear g6 HL3
            go_wp2_with fail
            refine (sswap_any (i := i) (j := j2) HS.out.1 (by have := HB.out; omega) (by have := HM.out.2.1; have := HB.out; omega)).mono ?_
            rintro e w7 ⟨rfl, s7, g7⟩
            have HZ := Lib.hid (And.intro s7 g7)
            clear s7 g7
            go_wp2_with fail
            go_roundw
            case rel => exact ⟨j2, swapK K' i j2, rfl, by have := HM.out.1; omega, .inl HM.out.2.1, HZ.out.1, HS.out.2.1.step h1 HM.out.2.1 HM.out.1 HD.out HM.out.2.2, fun v => (img_swap HB.out.1 HM.out.2.1).trans (HS.out.2.2.1 v), fun k hk => (swapK_o (by have := HB.out; omega) (by have := HM.out.2.1; omega)).trans (HS.out.2.2.2.1 k hk), HS.out.2.2.2.2.trans HZ.out.2⟩
            case measure => have := HM.out; have := HB.out; simp [intOf]; omega
          · rw [decide_eq_false hd] at HL3
            have HD := Lib.hid hd
            clear hd
            go_wp2_with fail
            refine (HL3.out _ HS.out.1).mono ?_
            rintro e w6 ⟨rfl, g6⟩
            have HZ := Lib.hid (And.intro (HS.out.1.gr0 g6) (HS.out.2.2.2.2.nextN g6 (by simp)))
            clear g6 HL3
            go_wp2_with fail
            go_ret
            exact ⟨_, K', rfl, HZ.out.1, HS.out.2.1.stop (fun c q1 q2 => Nat.le_trans (by have := HD.out; omega) (HM.out.2.2 c q1 q2)), HS.out.2.2.1, HS.out.2.2.2.1, HZ.out.2⟩
        · rw [decide_eq_false hc] at HL2
          have HC := Lib.hid hc
          clear hc
          go_wp2_with fail
          refine (HL2.out _ HS.out.1).mono ?_
          rintro e w5 ⟨rfl, g5⟩
          have HS := Lib.hid (And.intro (HS.out.1.gr0 g5) (And.intro HS.out.2.1 (And.intro HS.out.2.2.1 (And.intro HS.out.2.2.2.1 (HS.out.2.2.2.2.nextN g5 (by simp))))))
          have HM := Lib.hid (show (j1 = 2 * i + 1 ∨ j1 = 2 * i + 2) ∧ j1 < n0 ∧ ∀ c, c < n0 → (c = 2 * i + 1 ∨ c = 2 * i + 2) → K' j1 ≤ K' c from ⟨by have := HJ.out; omega, HB.out.2.1, fun c q1 q2 => by
            have := HC.out
            have e1 := HJ.out
            have e2 := HJ2.out
            rcases q2 with q2 | q2
            · rw [q2, ← e1]; omega
            · rw [show c = j2 by omega]; omega⟩)
          clear g5 HL2
          have HL3 := Lib.hid (fun W (s : SpIs W hb lb n cap K') => sless_any (i := j1) (j := i) s (by have := HM.out.2.1; have := HB.out; omega) (by have := HB.out; omega))
          by_cases hd : K' j1 < K' i
          · rw [decide_eq_true hd] at HL3
            have HD := Lib.hid hd
            clear hd
            go_wp2_with fail
            refine (HL3.out _ HS.out.1).mono ?_
            rintro e w6 ⟨rfl, g6⟩
            have HS := Lib.hid (And.intro (HS.out.1.gr0 g6) (And.intro HS.out.2.1 (And.intro HS.out.2.2.1 (And.intro HS.out.2.2.2.1 (HS.out.2.2.2.2.nextN g6 (by simp))))))
            clear g6 HL3
            go_wp2_with fail
            refine (sswap_any (i := i) (j := j1) HS.out.1 (by have := HB.out; omega) (by have := HM.out.2.1; have := HB.out; omega)).mono ?_
            rintro e w7 ⟨rfl, s7, g7⟩
            have HZ := Lib.hid (And.intro s7 g7)
            clear s7 g7
            go_wp2_with fail
            go_roundw
            case rel => exact ⟨j1, swapK K' i j1, rfl, by have := HM.out.1; omega, .inl HM.out.2.1, HZ.out.1, HS.out.2.1.step h1 HM.out.2.1 HM.out.1 HD.out HM.out.2.2, fun v => (img_swap HB.out.1 HM.out.2.1).trans (HS.out.2.2.1 v), fun k hk => (swapK_o (by have := HB.out; omega) (by have := HM.out.2.1; omega)).trans (HS.out.2.2.2.1 k hk), HS.out.2.2.2.2.trans HZ.out.2⟩
            case measure => have := HM.out; have := HB.out; simp [intOf]; omega
          · rw [decide_eq_false hd] at HL3
            have HD := Lib.hid hd
            clear hd
            go_wp2_with fail
            refine (HL3.out _ HS.out.1).mono ?_
            rintro e w6 ⟨rfl, g6⟩
            have HZ := Lib.hid (And.intro (HS.out.1.gr0 g6) (HS.out.2.2.2.2.nextN g6 (by simp)))
            clear g6 HL3
            go_wp2_with fail
            go_ret
            exact ⟨_, K', rfl, HZ.out.1, HS.out.2.1.stop (fun c q1 q2 => Nat.le_trans (by have := HD.out; omega) (HM.out.2.2 c q1 q2)), HS.out.2.2.1, HS.out.2.2.2.1, HZ.out.2⟩
      · have hb4 : ¬ (j2 : Int) < (n0 : Int) := by omega
        have HB3 := Lib.hid hb3
        have HM := Lib.hid (show (j1 = 2 * i + 1 ∨ j1 = 2 * i + 2) ∧ j1 < n0 ∧ ∀ c, c < n0 → (c = 2 * i + 1 ∨ c = 2 * i + 2) → K' j1 ≤ K' c from ⟨by have := HJ.out; omega, HB.out.2.1, fun c q1 q2 => by
          have := HB3.out
          have e1 := HJ.out
          have e2 := HJ2.out
          rcases q2 with q2 | q2
          · rw [q2, ← e1]; omega
          · omega⟩)
        have HL3 := Lib.hid (fun W (s : SpIs W hb lb n cap K') => sless_any (i := j1) (j := i) s (by have := HM.out.2.1; have := HB.out; omega) (by have := HB.out; omega))
        by_cases hd : K' j1 < K' i
        · rw [decide_eq_true hd] at HL3
          have HD := Lib.hid hd
          clear hd
          go_wp2_with fail
          refine (HL3.out _ HS.out.1).mono ?_
          rintro e w6 ⟨rfl, g6⟩
          have HS := Lib.hid (And.intro (HS.out.1.gr0 g6) (And.intro HS.out.2.1 (And.intro HS.out.2.2.1 (And.intro HS.out.2.2.2.1 (HS.out.2.2.2.2.nextN g6 (by simp))))))
          clear g6 HL3
          go_wp2_with fail
          refine (sswap_any (i := i) (j := j1) HS.out.1 (by have := HB.out; omega) (by have := HM.out.2.1; have := HB.out; omega)).mono ?_
          rintro e w7 ⟨rfl, s7, g7⟩
          have HZ := Lib.hid (And.intro s7 g7)
          clear s7 g7
          go_wp2_with fail
          go_roundw
          case rel => exact ⟨j1, swapK K' i j1, rfl, by have := HM.out.1; omega, .inl HM.out.2.1, HZ.out.1, HS.out.2.1.step h1 HM.out.2.1 HM.out.1 HD.out HM.out.2.2, fun v => (img_swap HB.out.1 HM.out.2.1).trans (HS.out.2.2.1 v), fun k hk => (swapK_o (by have := HB.out; omega) (by have := HM.out.2.1; omega)).trans (HS.out.2.2.2.1 k hk), HS.out.2.2.2.2.trans HZ.out.2⟩
          case measure => have := HM.out; have := HB.out; simp [intOf]; omega
        · rw [decide_eq_false hd] at HL3
          have HD := Lib.hid hd
          clear hd
          go_wp2_with fail
          refine (HL3.out _ HS.out.1).mono ?_
          rintro e w6 ⟨rfl, g6⟩
          have HZ := Lib.hid (And.intro (HS.out.1.gr0 g6) (HS.out.2.2.2.2.nextN g6 (by simp)))
          clear g6 HL3
          go_wp2_with fail
          go_ret
          exact ⟨_, K', rfl, HZ.out.1, HS.out.2.1.stop (fun c q1 q2 => Nat.le_trans (by have := HD.out; omega) (HM.out.2.2 c q1 q2)), HS.out.2.2.1, HS.out.2.2.2.1, HZ.out.2⟩
set_option maxRecDepth 100000 in
set_option maxHeartbeats 8000000 in
/-- A heap is made: the least is first. -/
theorem sinit_any (h : SpIs w hb lb n cap K) (hn : 1 ≤ n) : Calls Tryz.prog 152 #[.iface 206 (.pointer (some ⟨hb, 0, none⟩))] w fun e w' => ∃ K' : Nat → Nat, e = .returned (.tuple #[]) ∧ SpIs w' hb lb n cap K' ∧ Hp K' n 0 ∧ (∀ v, ImgK K' n v ↔ ImgK K n v) ∧ Gr [lb] w w' := by
  have hn7 := h.hn
  have v1 := inv_len10
  have H0 := Lib.hid h
  have t2 : (n : Int).tdiv 2 = ((n / 2 : Nat) : Int) := (Int.ofNat_tdiv n 2).symm
  obtain ⟨m, hm⟩ : ∃ m, m = n / 2 := ⟨_, rfl⟩
  rw [← hm] at t2
  have HM := Lib.hid hm
  have hm7 : m ≤ 70000 := by omega
  clear h hm
  go_enter Tryz.func152, Tryz.ntmps152
  go_wp2_with fail
  refine (slen_any H0.out).mono ?_
  rintro e w2 ⟨rfl, rfl⟩
  go_wp2_with fail
  go_loopw [3] (fun iv wr => ∃ (k : Nat) (K' : Nat → Nat), iv = .int .i64 ((k : Int) - 1) ∧ k ≤ m ∧ SpIs wr hb lb n cap K' ∧ Hp K' n k ∧ (∀ v, ImgK K' n v ↔ ImgK K n v) ∧ Gr [lb] w2 wr) (fun iv _ => (intOf iv + 1).toNat)
  case atStart => exact ⟨m, K, rfl, Nat.le_refl _, H0.out, fun p c q1 q2 q3 => by have := HM.out; omega, fun _ => Iff.rfl, Gr.refl _ _⟩
  case round =>
    clear H0
    obtain ⟨k, K', rfl, h1, h2, h3, h4, h5⟩ := hrel
    have HS := Lib.hid (And.intro h2 (And.intro h3 (And.intro h4 h5)))
    clear h2 h3 h4 h5
    by_cases hk : k = 0
    · subst hk
      go_wp2_with fail
      go_returns
      exact ⟨K', rfl, HS.out.1, HS.out.2.1, HS.out.2.2.1, HS.out.2.2.2⟩
    · obtain ⟨p, rfl⟩ : ∃ p, k = p + 1 := ⟨k - 1, by omega⟩
      have e1 : ((p + 1 : Nat) : Int) - 1 = (p : Int) := by omega
      rw [e1]
      have hp0 : (0 : Int) ≤ (p : Int) := by omega
      have HK := Lib.hid (show p < n by have := HM.out; omega)
      have w1 : IntKind.i64.wrap ((p : Int) - 1) = (p : Int) - 1 := IntWalk.i64_in _ (by omega)
      clear hk e1
      go_wp2_with fail
      refine (sdown_any (n0 := n) (i0 := p) HS.out.1 (Nat.le_refl _) (.inl HK.out) HS.out.2.1.start).mono ?_
      rintro e w3 ⟨b, K2, rfl, s3, p3, i3, o3, g3⟩
      have HZ := Lib.hid (And.intro s3 (And.intro p3 (And.intro i3 g3)))
      clear s3 p3 i3 o3 g3
      go_wp2_with fail
      go_roundw
      case rel => exact ⟨p, K2, rfl, by omega, HZ.out.1, HZ.out.2.1, fun v => (HZ.out.2.2.1 v).trans (HS.out.2.2.1 v), HS.out.2.2.2.trans HZ.out.2.2.2⟩
      case measure => simp [intOf]
set_option maxRecDepth 100000 in
set_option maxHeartbeats 8000000 in
theorem spop_any (h : SpIs w hb lb (n + 1) cap K) : Calls Tryz.prog 205 #[.pointer (some ⟨hb, 0, none⟩)] w fun e w' => e = .returned (.iface 192 (.agg #[frV (K n), mvV (K n)])) ∧ Gr [hb] w w' := by
  have c0 := h.c0
  have f0 := h.head.frozen 0
  have hn := h.hn
  have hcap := h.hi
  obtain ⟨i0, i1⟩ := h.at (Nat.lt_succ_self n)
  have hbl := h.head.lt
  have hll := World.block_lt_of_cell? w _ i0
  have hne := h.ne
  clear h
  unfold frV mvV at *
  generalize K n % 65536 = fi at *
  generalize K n / 65536 = mi at *
  have w1 : IntKind.i64.wrap (((n + 1 : Nat) : Int) - 1) = (n : Int) := by rw [show ((n + 1 : Nat) : Int) - 1 = (n : Int) by omega]; exact IntWalk.i64_in _ (by omega)
  obtain ⟨m, hm⟩ : ∃ m, m = n + 1 := ⟨_, rfl⟩
  rw [← hm] at c0 hn hcap w1
  have hi1 : (n : Int) < (m : Int) := by omega
  have hi2 : (0 : Int) ≤ (n : Int) := by omega
  have hi3 : (n : Int) ≤ (cap : Int) := by omega
  clear hm
  go_enter Tryz.func205, Tryz.ntmps205
  go_wp2_with fail
  go_ret
  exact ⟨rfl, by repeat (first | exact Gr.refl _ _ | refine Gr.setCell ?_ (.inl (by simp)) _ | refine Gr.setCell ?_ (.inr (by (try dsimp only); omega)) _ | refine Gr.alloc ?_ _ | refine Gr.drew ?_)⟩
set_option maxRecDepth 100000 in
set_option maxHeartbeats 8000000 in
/-- The least is taken. -/
theorem hpop_any (h : SpIs w hb lb (n + 1) cap K) (hp : Hp K (n + 1) 0) : Calls Tryz.prog 153 #[.iface 206 (.pointer (some ⟨hb, 0, none⟩))] w fun e w' => e = .returned (.iface 192 (.agg #[frV (K 0), mvV (K 0)])) ∧ Gr [hb, lb] w w' := by
  have hn7 := h.hn
  have v1 := inv_len10
  have v2 := inv_swap10
  have v3 := inv_pop10
  have H0 := Lib.hid (And.intro h hp)
  have w1 : IntKind.i64.wrap (((n + 1 : Nat) : Int) - 1) = (n : Int) := by rw [show ((n + 1 : Nat) : Int) - 1 = (n : Int) by omega]; exact IntWalk.i64_in _ (by omega)
  have HL := Lib.hid (slen_any h)
  obtain ⟨m, hm⟩ : ∃ m, m = n + 1 := ⟨_, rfl⟩
  rw [← hm] at w1 HL
  have HM := Lib.hid hm
  clear h hp hm
  go_enter Tryz.func153, Tryz.ntmps153
  go_wp2_with fail
  refine HL.out.mono ?_
  rintro e w2 ⟨rfl, rfl⟩
  go_wp2_with fail
  refine (sswap_any (i := 0) (j := n) H0.out.1 (by omega) (by omega)).mono ?_
  rintro e w3 ⟨rfl, s3, g3⟩
  have H3 := Lib.hid (And.intro s3 g3)
  clear s3 g3
  go_wp2_with fail
  refine (sdown_any (n0 := n) (i0 := 0) H3.out.1 (by omega) (.inr rfl) ⟨fun p c q1 q2 q3 q4 => ?_, fun p c q1 q2 q3 q4 => by omega⟩).mono ?_
  · rw [swapK_o q2 (by omega), swapK_o (by omega) (by omega)]
    exact H0.out.2 p c q1 (by omega) q4
  rintro e w4 ⟨b, K2, rfl, s4, p4, i4, o4, g4⟩
  have e4 : K2 n = K 0 := (o4 n (Nat.le_refl _)).trans swapK_r
  have HPp := Lib.hid (spop_any s4)
  rw [e4] at HPp
  have H4 := Lib.hid (H3.out.2.trans g4)
  clear s4 p4 i4 o4 g4 e4
  go_wp2_with fail
  refine HPp.out.mono ?_
  rintro e w5 ⟨rfl, g5⟩
  have H5 := Lib.hid (show Gr [hb, lb] w2 w5 from (H4.out.mono (by simp)).trans (g5.mono (by simp)))
  clear g5
  go_wp2_with fail
  go_ret
  exact ⟨rfl, H5.out⟩
end
end Go.Proofs.YtifekejcbhllpaaGreat

/-
  Layer 9: the law's full, its examples.
-/
namespace Go.Proofs.YtifekejcbhllpaaGreat
open Go.RowKit
set_option linter.unusedVariables false

theorem newD_gud (n : Nat) : Gud n (newD n) ∧ Calm (newD n) ∧ Bd (newD n) 0 := ⟨⟨⟨rfl, fun _ => rfl⟩, rfl, rfl⟩, ⟨rfl, rfl, fun _ => rfl⟩, ⟨Nat.le_refl _, fun _ => ⟨by show (0 : Int) ≤ 0; omega, by show (0 : Int) ≤ 0; omega⟩⟩⟩
/-- Make of a new device. -/
theorem fl_new {C : CfgZ} (hC : OkC C) {n : Nat} (hn : sizeC C ≤ (n : Int)) (w : World) (a : DevA) (h : DevIs w a (newD n)) :
    Calls Tryz.prog 54 #[.pointer (some ⟨a.bd, 0, none⟩), cfgV C] w fun e w' => e = .returned (.int .i64 0) ∧ DevIs w' a (makeZ C (newD n)).2 ∧ FlD C true (fun _ _ => 0) (vOf C (fun _ => B0) (fun _ => 0) (iL C)) 200000 (makeZ C (newD n)).2 (fun _ => B0) (fun _ => 0) ∧ Gr a.all w w' := by
  obtain ⟨g1, g2, g3⟩ := newD_gud n
  obtain ⟨m1, m2, m3, m4⟩ := fl_made (N := 200000) hC hn g2 g1
  have n4 := hC.nums
  refine (fmake_any h hC hn g1 g3 (by omega)).mono ?_
  rintro e w2 ⟨rfl, d2, b2, g2⟩
  exact ⟨by rw [m1], d2, m4 (b2.mono (by omega)), g2⟩
end Go.Proofs.YtifekejcbhllpaaGreat

/-
  FlatAlike: the law's small; a list at work, whatever index it is given.
-/
namespace Go.Proofs.YtifekejcbhllpaaGreat
open Go.RowKit
set_option linter.unusedVariables false

/-- A list none of whose lines is bad, behind n writes at most. -/
def FQ (C : CfgZ) (A : FlA) (a : DevA) (F : Nat → Nat → Nat) (n : Nat) (w : World) : Prop := ∃ V, FL C A a true F V (200000 + 4200 * n) w
section
variable {w w' : World} {A : FlA} {a : DevA} {C : CfgZ} {F F' : Nat → Nat → Nat} {n : Nat}
theorem FQ.lt (h : FQ C A a F n w) : ∀ x ∈ A.all (cR C) ++ a.all, x < w.heap.size := h.elim fun V h => h.lt
end
end Go.Proofs.YtifekejcbhllpaaGreat
