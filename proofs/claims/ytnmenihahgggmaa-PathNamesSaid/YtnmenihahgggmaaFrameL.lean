/-
  Slices of strings that come in as arguments of a law, opened.
-/
import Derived.Test.YtnmenihahgggmaaFrameI
import Derived.Test.YtnmenihahgggmaaPaS
import Derived.SliceStrings
namespace Go.Proofs.Ytnmenihahgggmaa
open Go.ChangeShapes Go.WideShapes Go.ChangeAt Go.RowKit

theorem open_strL {H : Type} {enc : TypeId × Value → H} {P : Program} {w : World} {b0 base : Nat} {held : Bool} {t e : TypeId} {v : Value} {d : DataW H} {p : List MemPlace}
    (ht : P.underlying t = some (.slice e)) (he : P.underlying e = some .string) (hc : P.cellsOf e = 1)
    (hv : Value.okWide P w .any b0 t v) (h : DataW.Trod enc P w base (fun _ => true) held t v d p) :
    ∃ L : List (List UInt8), SlS w v L := by
  obtain ⟨a0, len, cap, rfl⟩ := okWide_slice ht hv
  obtain ⟨fuel, hf⟩ := h
  rcases open_strings ht he hc hf with ⟨hcs, hx⟩ | ⟨a, len', cap', ss, hcs, _, hl, hm, hz, hx, hcell, _⟩
  · simp [Value.cells] at hcs
    obtain ⟨rfl, rfl, rfl⟩ := hcs
    exact ⟨[], SlS.nil w⟩
  · simp [Value.cells] at hcs
    obtain ⟨rfl, rfl, rfl⟩ := hcs
    simp only [if_true] at hz
    have hlen : ((ss.take len).map (fun s => s.data.toList)).length = len := by simp; omega
    refine ⟨(ss.take len).map (fun s => s.data.toList), some a, cap, by rw [hlen], fun i x hi => ?_, by rw [hlen]; exact hl, hm, fun e => by cases e⟩
    have hil : i < len := by
      have := (List.getElem?_eq_some_iff.1 hi).1
      rw [hlen] at this
      exact this
    obtain ⟨b, off, spot⟩ := a
    have hspot : spot = none := by simpa [Addr.add] using World.cell?_spot (hcell 0 (by omega))
    subst hspot
    have hc1 := hcell i (by omega)
    rw [add_plain] at hc1
    refine ⟨b, off, rfl, block_lt_of_cell hc1, ?_⟩
    rw [hc1]
    rw [List.getElem?_map, List.getElem?_take_of_lt hil, Option.map_eq_some_iff] at hi
    obtain ⟨s, hs1, hs2⟩ := hi
    subst hs2
    simp [List.getD, hs1, sv, bsL]

end Go.Proofs.Ytnmenihahgggmaa
