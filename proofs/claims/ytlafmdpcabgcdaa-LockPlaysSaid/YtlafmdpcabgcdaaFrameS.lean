/-
  Slices that come in as arguments of a law, opened: of integers.
-/
import Derived.Test.YtlafmdpcabgcdaaFrame
import Derived.ChangeSlices
import Derived.Deep.Slices
namespace Go.Proofs.Ytlafmdpcabgcdaa
open Go.ChangeShapes Go.WideShapes Go.ChangeAt Go.RowKit

/-- The slice v reads in w as the integers xs. -/
def SlI (k : IntKind) (w : World) (v : Value) (xs : List Int) : Prop :=
  (∃ ao cap, v = .slice ao 0 cap ∧ xs = [] ∧ (ao = none → cap = 0) ∧ cap ≤ maxLen) ∨
  ∃ b off cap, v = .slice (some ⟨b, off, none⟩) xs.length cap ∧ 0 < xs.length ∧ xs.length ≤ cap ∧ cap ≤ maxLen ∧ b < w.heap.size ∧ ∀ i x, xs[i]? = some x → w.cell? ⟨b, off + i, none⟩ = some (.int k x)

theorem open_il {H : Type} {enc : TypeId × Value → H} {P : Program} {w : World} {b0 base : Nat} {held : Bool} {t e : TypeId} {k : IntKind} {v : Value} {d : DataW H} {p : List MemPlace}
    (ht : P.underlying t = some (.slice e)) (he : P.underlying e = some (.int k)) (hc : P.cellsOf e = 1)
    (hv : Value.okWide P w .any b0 t v) (h : DataW.Trod enc P w base (fun _ => true) held t v d p) :
    ∃ xs : List Int, SlI k w v xs ∧ ∀ x ∈ xs, (Lit.int k x).wf = true := by
  obtain ⟨a0, len, cap, rfl⟩ := okWide_slice ht hv
  obtain ⟨fuel, hf⟩ := h
  rcases open_ints ht he hc hf with ⟨hcs, hx⟩ | ⟨a, len', cap', zs, hcs, _, hl, hm, hz, hx, hcell, hwz⟩
  · simp [Value.cells] at hcs
    obtain ⟨rfl, rfl, rfl⟩ := hcs
    exact ⟨[], .inl ⟨none, 0, rfl, rfl, fun _ => rfl, Nat.zero_le _⟩, fun x hx => by cases hx⟩
  · simp [Value.cells] at hcs
    obtain ⟨rfl, rfl, rfl⟩ := hcs
    simp only [if_true] at hz
    by_cases h0 : len = 0
    · subst h0
      exact ⟨[], .inl ⟨some a, cap, rfl, rfl, (fun e => by cases e), hm⟩, (fun x hx => by cases hx)⟩
    · obtain ⟨b, off, spot⟩ := a
      have hspot : spot = none := by simpa [Addr.add] using World.cell?_spot (hcell 0 (by omega))
      subst hspot
      have hlen : (zs.take len).length = len := by simp; omega
      refine ⟨zs.take len, .inr ⟨b, off, cap, by rw [hlen], by omega, by omega, hm, ?_, fun i x hi => ?_⟩, fun x hx => hwz x (List.mem_of_mem_take hx)⟩
      · have := block_lt_of_cell (hcell 0 (by omega))
        simpa [Addr.add] using this
      · have hil : i < len := by
          have := (List.getElem?_eq_some_iff.1 hi).1
          rw [hlen] at this
          exact this
        have hc1 := hcell i (by omega)
        rw [add_plain] at hc1
        rw [hc1]
        rw [List.getElem?_take_of_lt hil] at hi
        simp [List.getD, hi]

end Go.Proofs.Ytlafmdpcabgcdaa
