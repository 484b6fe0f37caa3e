/-
  MgAc: NiE, GapM.
-/
import Derived.Test.YtgifjnniohcacaaGreatMap
import Derived.Test.YtgifjnniohcacaaGreatBase
import Derived.Test.YtgifjnniohcacaaGreatReg

/-
  Maps from int to int whose elements are natural numbers: look-up and store.
-/
namespace Go.Proofs.YtgifjnniohcacaaGreat
open Go.RowKit

def niEnc (c : Nat) : DataW Unit := .lit (.int .i64 (c : Int))
def niR : Value → Option (DataW Unit × List MemPlace)
  | .int .i64 (.ofNat v) => some (niEnc v, [])
  | _ => none
theorem niR_inv (v : Value) (y : DataW Unit × List MemPlace) (h : niR v = some y) : ∃ a : Nat, v = .int .i64 (a : Int) ∧ y = (niEnc a, []) := by
  unfold niR at h
  split at h
  · rename_i n
    cases h
    exact ⟨n, rfl, rfl⟩
  · cases h
noncomputable def niE : EltLaw Tryz.prog 3 Nat where
  val := fun c => .int .i64 (c : Int)
  enc := niEnc
  R := niR
  R_mk := fun _ => rfl
  R_inv := niR_inv
  enc_inj := by
    intro a b h
    unfold niEnc at h
    simp at h
    omega
  zero := 0
  zero_run := fun _ => by kernel_rfl
theorem MapZ.put_runN {w : World} {b m : Nat} {f : Int → Option Nat} (h : MapZ niE 3 w b m f) (hn : m < maxLen) {z : Int} (hz : WfZ z) (c : Nat) :
    ∃ w', (Instr.mapUpdate 75 (.map (some b)) (.int .i64 z) (.int .i64 (c : Int))).run Tryz.prog w = .ok () w' ∧ MapZ niE 3 w' b (m + 1) (updZ f z (some c)) ∧ Gr [b] w w' ∧ w'.heap.size = w.heap.size := by
  obtain ⟨D, h, q⟩ := h
  obtain ⟨w', hrun, r1, r2⟩ := h.store (t := 75) (Maps.int_keyed Tryz.underlying3) Tryz.underlying75 hn (Maps.keyOf_int_mk Tryz.underlying3 hz) (niE.R_mk c)
  have hs : w'.heap.size = w.heap.size := by
    obtain ⟨es, cl, es', cl', _, rfl⟩ := r2
    simp [ChangeMaps.setBlock]
  exact ⟨w', hrun, ⟨_, r1, q.put h.isMap z c⟩, Gr.ofGrown r2.grown, hs⟩
end Go.Proofs.YtgifjnniohcacaaGreat

/-
  The row that make lays, as facts for a walk.
-/
namespace Go.Proofs.YtgifjnniohcacaaGreat
open Go.RowKit

theorem infoInt : (Tryz.prog.info? 3).map (fun i => (i.zero, i.size, i.bytes)) = some (some (.int .i64 0), 1, 8) := by kernel_rfl
theorem made_facts {w wm : World} {e : TypeId} {N g : Nat} {v u : Value} {xs : List Value} (hown : wm.ownsRow w.heap.size e 1 v N xs) (hv : v = .slice (some ⟨w.heap.size, 0, none⟩) N N) (hgrow : w.grownBy wm none) (hg : g < N) :
    ∃ (x0 : Value) (ys : List Value), ys.length = N ∧ ys[g]? = some u ∧ wm.cell? ⟨w.heap.size, g, none⟩ = some x0 ∧ wm.frozen? ⟨w.heap.size, g, none⟩ = false ∧
      (wm.setCell ⟨w.heap.size, g, none⟩ u).ownsRow w.heap.size e 1 v N ys ∧ Below w.heap.size w (wm.setCell ⟨w.heap.size, g, none⟩ u) := by
  subst hv
  have hl : xs.length = N := by simpa using hown.1
  have hb2 : Below w.heap.size w wm := (Below.refl _ _).grown hgrow (by simp) (fun k hk => by cases hk)
  have hc := hown.cellAt g (by omega)
  rw [List.getElem?_eq_getElem (by omega)] at hc
  exact ⟨_, xs.set g u, by simpa using hl, by simp [hl, hg], by simpa using hc, by simpa using hown.frozenAt g, by simpa using (hown.stored g u).1, hb2.setCell (p := ⟨w.heap.size, g, none⟩) (by simp) u⟩


end Go.Proofs.YtgifjnniohcacaaGreat
