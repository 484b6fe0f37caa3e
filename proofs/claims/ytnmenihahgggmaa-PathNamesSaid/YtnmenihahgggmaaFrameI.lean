/-
  Openers: slices of structs of ints alone.
-/
import Derived.Test.YtnmenihahgggmaaFrameT
namespace Go.Proofs.Ytnmenihahgggmaa
open Go.ChangeShapes Go.WideShapes Go.ChangeAt Go.RowKit
set_option linter.unusedVariables false

/-- A slice of structs of k ints each. -/
def SlN (k : Nat) (w : World) (v : Value) : Prop :=
  (∃ ao cap, v = .slice ao 0 cap ∧ (ao = none → cap = 0) ∧ cap ≤ maxLen) ∨
  ∃ b off n cap, ∃ f : Nat → Nat → Int, v = .slice (some ⟨b, off, none⟩) n cap ∧ 0 < n ∧ n ≤ cap ∧ cap ≤ maxLen ∧ b < w.heap.size ∧ ∀ i, i < n → ∀ j, j < k → w.cell? ⟨b, off + i * k + j, none⟩ = some (.int .i64 (f i j)) ∧ (-9223372036854775808 ≤ f i j ∧ f i j ≤ 9223372036854775807)
theorem open_nact {H : Type} {enc : TypeId × Value → H} {P : Program} {w : World} {base : Nat} {held : Bool} {e : TypeId} {fs : Array Field} {cs : List Value} {x : DataW H × List MemPlace} {fuel k : Nat}
    (he : P.underlying e = some (.struct fs)) (hf : ∀ j, j < k → ∃ g, fs[j]? = some g ∧ g.offset = j ∧ P.underlying g.type = some (.int .i64) ∧ P.cellsOf g.type = 1)
    (h : DataW.trod enc P w base (fun _ => true) held fuel e cs = some x) :
    ∃ y : Nat → Int, ∀ j, j < k → cs[j]? = some (.int .i64 (y j)) ∧ (-9223372036854775808 ≤ y j ∧ y j ≤ 9223372036854775807) := by
  obtain ⟨ys, n, _, _, hl, hy, hi⟩ := DataW.trod_struct he h
  have each : ∀ j, ∃ z : Int, j < k → cs[j]? = some (.int .i64 z) ∧ (-9223372036854775808 ≤ z ∧ z ≤ 9223372036854775807) := by
    intro j
    by_cases hj : j < k
    · obtain ⟨g, h1, h2, h3, h4⟩ := hf j hj
      have hsz := (Array.getElem?_eq_some_iff.1 h1).1
      have r := hi j g h1
      rw [h2, h4, List.getElem?_eq_getElem (by omega)] at r
      obtain ⟨z, hz, _, wz⟩ := DataW.trod_int h3 r
      refine ⟨z, fun _ => ⟨?_, bounds_i64 wz⟩⟩
      have : (List.take 1 (List.drop j cs))[0]? = some (Value.int .i64 z) := by rw [hz]; rfl
      rw [List.getElem?_take_of_lt (by omega), List.getElem?_drop, Nat.add_zero] at this
      exact this
    · exact ⟨0, fun q => absurd q hj⟩
  exact ⟨fun j => Classical.choose (each j), fun j hj => Classical.choose_spec (each j) hj⟩
theorem open_nacts {H : Type} {enc : TypeId × Value → H} {P : Program} {w : World} {base : Nat} {held : Bool} {t e : TypeId} {fs : Array Field} {v : Value} {b0 k : Nat} {d : DataW H} {p : List MemPlace}
    (ht : P.underlying t = some (.slice e)) (he : P.underlying e = some (.struct fs)) (hf : ∀ j, j < k → ∃ g, fs[j]? = some g ∧ g.offset = j ∧ P.underlying g.type = some (.int .i64) ∧ P.cellsOf g.type = 1) (ce : P.cellsOf e = k) (hk : 0 < k)
    (hv : Value.okWide P w .any b0 t v) (h : DataW.Trod enc P w base (fun _ => true) held t v d p) : SlN k w v := by
  obtain ⟨a0, len, cap, rfl⟩ := okWide_slice ht hv
  obtain ⟨fuel, hq⟩ := h
  rcases DataW.trod_slice ht hq with ⟨hcs, _⟩ | ⟨a, len', cap', elems, rest, n, _, hcs, _, hb, hl, hm, hlen, hel, _, _⟩
  · simp [Value.cells] at hcs
    obtain ⟨rfl, rfl, rfl⟩ := hcs
    exact .inl ⟨none, 0, rfl, fun _ => rfl, Nat.zero_le _⟩
  · simp [Value.cells] at hcs
    obtain ⟨rfl, rfl, rfl⟩ := hcs
    by_cases hz : len = 0
    · subst hz
      exact .inl ⟨some a, cap, rfl, (fun e => by cases e), hm⟩
    · have each : ∀ i, ∃ y : Nat → Int, i < len → ∀ j, j < k → w.cell? ((a.add (i * k)).add j) = some (.int .i64 (y j)) ∧ (-9223372036854775808 ≤ y j ∧ y j ≤ 9223372036854775807) := by
        intro i
        by_cases hi : i < len
        · have q := hel i hi
          rw [ce, List.getElem?_eq_getElem (by omega), Option.bind_eq_some_iff] at q
          obtain ⟨cs', hc', hy⟩ := q
          obtain ⟨_, _, hc2⟩ := World.cells?_some hc'
          obtain ⟨y, hy1⟩ := open_nact he hf hy
          exact ⟨y, fun _ j hj => ⟨(hc2 j hj).trans (hy1 j hj).1, (hy1 j hj).2⟩⟩
        · exact ⟨fun _ => 0, fun q => absurd q hi⟩
      obtain ⟨b, off, spot⟩ := a
      have hspot : spot = none := by
        obtain ⟨y, e0⟩ := each 0
        simpa [Addr.add] using World.cell?_spot (e0 (by omega) 0 hk).1
      subst hspot
      have hcl : ∀ i j, ((⟨b, off, none⟩ : Addr).add (i * k)).add j = ⟨b, off + i * k + j, none⟩ := fun i j => by rw [add_plain, add_plain]
      refine .inr ⟨b, off, len, cap, fun i => Classical.choose (each i), rfl, by omega, hl, hm, ?_, fun i hi j hj => ?_⟩
      · obtain ⟨y, e0⟩ := each 0
        have e1 := (e0 (by omega) 0 hk).1
        rw [hcl] at e1
        exact block_lt_of_cell e1
      · have := Classical.choose_spec (each i) hi j hj
        rw [hcl] at this
        exact this

end Go.Proofs.Ytnmenihahgggmaa
