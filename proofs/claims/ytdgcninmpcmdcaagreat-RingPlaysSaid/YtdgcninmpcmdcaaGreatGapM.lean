/-
  The row that make lays, as facts for a walk.
-/
import Derived.Test.YtdgcninmpcmdcaaGreatBase
import Derived.Test.YtdgcninmpcmdcaaGreatReg
namespace Go.Proofs.YtdgcninmpcmdcaaGreat
open Go.RowKit

theorem infoInt : (Tryz.prog.info? 3).map (fun i => (i.zero, i.size, i.bytes)) = some (some (.int .i64 0), 1, 8) := by kernel_rfl
theorem made_facts {w wm : World} {e : TypeId} {N g : Nat} {v u : Value} {xs : List Value} (hown : wm.ownsRow w.heap.size e 1 v N xs) (hv : v = .slice (some ⟨w.heap.size, 0, none⟩) N N) (hgrow : w.grownBy wm none) (hg : g < N) :
    ∃ (x0 : Value) (ys : List Value), ys.length = N ∧ ys[g]? = some u ∧ wm.cell? ⟨w.heap.size, g, none⟩ = some x0 ∧ wm.frozen? ⟨w.heap.size, g, none⟩ = false ∧
      (wm.setCell ⟨w.heap.size, g, none⟩ u).ownsRow w.heap.size e 1 v N ys ∧ Below w.heap.size w (wm.setCell ⟨w.heap.size, g, none⟩ u) := by
  subst hv
  have hl : xs.length = N := by simpa using hown.1
  have hb2 : Below w.heap.size w wm := (Below.refl _ _).grown hgrow (by simp) (fun k hk => by cases hk)
  have hc := hown.cellAt g (by omega)
  rw [List.getElem?_eq_getElem (by omega)] at hc
  exact ⟨_, xs.set g u, by simpa using hl, by simp [hl, hg], by simpa using hc, by simpa using hown.frozenAt g, by simpa using (hown.stored g u).1, hb2.setCell (p := ⟨w.heap.size, g, none⟩) (by simp) u⟩


end Go.Proofs.YtdgcninmpcmdcaaGreat
