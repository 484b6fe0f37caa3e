/-
  The reference of layer 4: Get, Media.
-/
import Derived.Test.YtgifjnniohcacaaLnK
import Derived.Test.YtgifjnniohcacaaMgH
namespace Go.Proofs.Ytgifjnniohcacaa
open Go.RowKit
set_option linter.unusedVariables false

theorem cat_size (ns : List Nat) : (ByteArray.mk (catL ns).toArray).size = 8 * ns.length := by rw [size_is, catL_length]
theorem loadP_err {D : DevS} {z : Int} (h : reachE D (decide (0 ≤ z ∧ z < 8 * D.n)) ≠ 0) : loadP D z = (0, reachE D (decide (0 ≤ z ∧ z < 8 * D.n))) := by unfold loadP; rw [if_pos h]
theorem loadP_ok {D : DevS} {i : Nat} (ho : D.off = false) (hi : i < 8 * D.n) : loadP D (i : Int) = ((loadV D i : Int), 0) := by
  unfold loadP
  rw [if_neg (by rw [decide_eq_true (show 0 ≤ (i : Int) ∧ (i : Int) < 8 * D.n by omega)]; unfold reachE; rw [ho]; simp), Int.toNat_natCast]
/-! ### Media -/
def medT (D : DevS) (l : Nat) : List UInt8 := catL [D.med (8 * l), D.med (8 * l + 1), D.med (8 * l + 2), D.med (8 * l + 3), D.med (8 * l + 4), D.med (8 * l + 5), D.med (8 * l + 6), D.med (8 * l + 7)]
theorem RefIs.wm {W : World} {r : RefA} {D : DevS} (h : RefIs W r D) {i : Nat} (hi : i < 8 * D.n) : W.cell? ⟨r.rw, i * 4, none⟩ = some (.int .u64 (D.med i : Int)) := by
  obtain ⟨R, h1, h2⟩ := h
  rw [← h2.med i hi]
  exact h1.wm (by rw [h2.n]; exact hi)
end Go.Proofs.Ytgifjnniohcacaa
