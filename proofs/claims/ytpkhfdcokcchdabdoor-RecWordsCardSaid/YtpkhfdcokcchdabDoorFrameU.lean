/-
  An array of strings by value, opened.
-/
import Derived.Test.YtpkhfdcokcchdabDoorFrameT
namespace Go.Proofs.YtpkhfdcokcchdabDoor
open Go.RowKit

/-- An array of strings by value. -/
theorem open_sarr {H : Type} {enc : TypeId × Value → H} {P : Program} {w : World} {b0 base : Nat} {spare : Nat → Bool} {held : Bool} {t e : TypeId} {n : Nat} {v : Value} {d : DataW H} {p : List MemPlace}
    (ht : P.underlying t = some (.array n e)) (he : P.underlying e = some .string) (hc : P.cellsOf e = 1) (hn : P.cellsOf t = n)
    (hv : Value.okWide P w .any b0 t v) (h : DataW.Trod enc P w base spare held t v d p) :
    ∃ xs : List ByteArray, v = .agg (xs.map Value.string).toArray ∧ xs.length = n ∧ ∀ s ∈ xs, s.size ≤ maxLen := by
  obtain ⟨cs, rfl, hs⟩ := okWide_arr ht hv
  obtain ⟨fuel, hf⟩ := h
  obtain ⟨ys, m, _, _, hl, hy, hi⟩ := DataW.trod_array ht hf
  have hlen : cs.toList.length = n := by simpa [hn] using hs
  have key : ∀ i (h : i < cs.toList.length), ∃ x : ByteArray, cs.toList[i] = .string x ∧ x.size ≤ maxLen := by
    intro i hlt
    have h1 := hi i (by omega)
    rw [hc, Nat.mul_one, List.getElem?_eq_getElem (by omega)] at h1
    obtain ⟨x, hx, _, hxs⟩ := DataW.trod_string he h1
    refine ⟨x, ?_, hxs⟩
    have h2 : (List.take 1 (List.drop i cs.toList))[0]? = some (Value.string x) := by
      have : List.take 1 (List.drop i cs.toList) = [Value.string x] := hx
      rw [this]; rfl
    rw [List.getElem?_take_of_lt (by omega), List.getElem?_drop, Nat.add_zero, List.getElem?_eq_getElem hlt] at h2
    exact Option.some.inj h2
  refine ⟨cs.toList.map fun c => match c with | .string x => x | _ => ⟨#[]⟩, ?_, by simpa using hlen, ?_⟩
  · have e1 : (cs.toList.map fun c => match c with | .string x => x | _ => ⟨#[]⟩).map Value.string = cs.toList := by
      apply List.ext_getElem (by simp)
      intro i h1 h2
      obtain ⟨x, hx, _⟩ := key i h2
      simp only [List.getElem_map, hx]
    rw [e1]
  · intro s hs
    obtain ⟨i, hi2, rfl⟩ := List.getElem_of_mem hs
    have h2 : i < cs.toList.length := by simpa using hi2
    obtain ⟨x, hx, hxs⟩ := key i h2
    simp only [List.getElem_map, hx]
    exact hxs

end Go.Proofs.YtpkhfdcokcchdabDoor
