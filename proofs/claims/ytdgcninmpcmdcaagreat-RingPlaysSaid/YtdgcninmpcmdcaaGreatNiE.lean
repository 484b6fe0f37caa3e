/-
  Maps from int to int whose elements are natural numbers: look-up and store.
-/
import Derived.Test.YtdgcninmpcmdcaaGreatMap
namespace Go.Proofs.YtdgcninmpcmdcaaGreat
open Go.RowKit

def niEnc (c : Nat) : DataW Unit := .lit (.int .i64 (c : Int))
def niR : Value → Option (DataW Unit × List MemPlace)
  | .int .i64 (.ofNat v) => some (niEnc v, [])
  | _ => none
theorem niR_inv (v : Value) (y : DataW Unit × List MemPlace) (h : niR v = some y) : ∃ a : Nat, v = .int .i64 (a : Int) ∧ y = (niEnc a, []) := by
  unfold niR at h
  split at h
  · rename_i n
    cases h
    exact ⟨n, rfl, rfl⟩
  · cases h
noncomputable def niE : EltLaw Tryz.prog 3 Nat where
  val := fun c => .int .i64 (c : Int)
  enc := niEnc
  R := niR
  R_mk := fun _ => rfl
  R_inv := niR_inv
  enc_inj := by
    intro a b h
    unfold niEnc at h
    simp at h
    omega
  zero := 0
  zero_run := fun _ => by kernel_rfl
theorem MapZ.put_runN {w : World} {b m : Nat} {f : Int → Option Nat} (h : MapZ niE 3 w b m f) (hn : m < maxLen) {z : Int} (hz : WfZ z) (c : Nat) :
    ∃ w', (Instr.mapUpdate 134 (.map (some b)) (.int .i64 z) (.int .i64 (c : Int))).run Tryz.prog w = .ok () w' ∧ MapZ niE 3 w' b (m + 1) (updZ f z (some c)) ∧ Gr [b] w w' ∧ w'.heap.size = w.heap.size := by
  obtain ⟨D, h, q⟩ := h
  obtain ⟨w', hrun, r1, r2⟩ := h.store (t := 134) (Maps.int_keyed Tryz.underlying3) Tryz.underlying134 hn (Maps.keyOf_int_mk Tryz.underlying3 hz) (niE.R_mk c)
  have hs : w'.heap.size = w.heap.size := by
    obtain ⟨es, cl, es', cl', _, rfl⟩ := r2
    simp [ChangeMaps.setBlock]
  exact ⟨w', hrun, ⟨_, r1, q.put h.isMap z c⟩, Gr.ofGrown r2.grown, hs⟩
end Go.Proofs.YtdgcninmpcmdcaaGreat
