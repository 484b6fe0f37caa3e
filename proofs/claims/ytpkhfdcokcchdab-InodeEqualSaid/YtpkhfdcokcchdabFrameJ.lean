/-
  Openers: slices of arrays of ints.
-/
import Derived.Test.YtpkhfdcokcchdabFrameI
namespace Go.Proofs.Ytpkhfdcokcchdab
open Go.ChangeShapes Go.WideShapes Go.ChangeAt Go.RowKit
set_option linter.unusedVariables false

theorem open_nrow {H : Type} {enc : TypeId × Value → H} {P : Program} {w : World} {base : Nat} {held : Bool} {e i : TypeId} {cs : List Value} {x : DataW H × List MemPlace} {fuel k : Nat}
    (he : P.underlying e = some (.array k i)) (hi : P.underlying i = some (.int .i64)) (hc : P.cellsOf i = 1)
    (h : DataW.trod enc P w base (fun _ => true) held fuel e cs = some x) (hl0 : cs.length = k) :
    ∃ y : Nat → Int, ∀ j, j < k → cs[j]? = some (.int .i64 (y j)) ∧ (-9223372036854775808 ≤ y j ∧ y j ≤ 9223372036854775807) := by
  obtain ⟨ys, m, _, _, hl, hy, hr⟩ := DataW.trod_array he h
  have each : ∀ j, ∃ z : Int, j < k → cs[j]? = some (.int .i64 z) ∧ (-9223372036854775808 ≤ z ∧ z ≤ 9223372036854775807) := by
    intro j
    by_cases hj : j < k
    · have r := hr j (by omega)
      rw [hc, Nat.mul_one, List.getElem?_eq_getElem (by omega)] at r
      obtain ⟨z, hz, _, wz⟩ := DataW.trod_int hi r
      refine ⟨z, fun _ => ⟨?_, bounds_i64 wz⟩⟩
      have : (List.take 1 (List.drop j cs))[0]? = some (Value.int .i64 z) := by
        have e1 : List.take 1 (List.drop j cs) = [Value.int .i64 z] := hz
        rw [e1]; rfl
      rw [List.getElem?_take_of_lt (by omega), List.getElem?_drop, Nat.add_zero] at this
      exact this
    · exact ⟨0, fun q => absurd q hj⟩
  exact ⟨fun j => Classical.choose (each j), fun j hj => Classical.choose_spec (each j) hj⟩
theorem open_nrows {H : Type} {enc : TypeId × Value → H} {P : Program} {w : World} {base : Nat} {held : Bool} {t e i : TypeId} {v : Value} {b0 k : Nat} {d : DataW H} {p : List MemPlace}
    (ht : P.underlying t = some (.slice e)) (he : P.underlying e = some (.array k i)) (hii : P.underlying i = some (.int .i64)) (hc1 : P.cellsOf i = 1) (ce : P.cellsOf e = k) (hk : 0 < k)
    (hv : Value.okWide P w .any b0 t v) (h : DataW.Trod enc P w base (fun _ => true) held t v d p) : SlN k w v := by
  obtain ⟨a0, len, cap, rfl⟩ := okWide_slice ht hv
  obtain ⟨fuel, hq⟩ := h
  rcases DataW.trod_slice ht hq with ⟨hcs, _⟩ | ⟨a, len', cap', elems, rest, n, _, hcs, _, hb, hl, hm, hlen, hel, _, _⟩
  · simp [Value.cells] at hcs
    obtain ⟨rfl, rfl, rfl⟩ := hcs
    exact .inl ⟨none, 0, rfl, fun _ => rfl, Nat.zero_le _⟩
  · simp [Value.cells] at hcs
    obtain ⟨rfl, rfl, rfl⟩ := hcs
    by_cases hz : len = 0
    · subst hz
      exact .inl ⟨some a, cap, rfl, (fun e => by cases e), hm⟩
    · have each : ∀ i, ∃ y : Nat → Int, i < len → ∀ j, j < k → w.cell? ((a.add (i * k)).add j) = some (.int .i64 (y j)) ∧ (-9223372036854775808 ≤ y j ∧ y j ≤ 9223372036854775807) := by
        intro i
        by_cases hi : i < len
        · have q := hel i hi
          rw [ce, List.getElem?_eq_getElem (by omega), Option.bind_eq_some_iff] at q
          obtain ⟨cs', hc', hy⟩ := q
          obtain ⟨_, hlc, hc2⟩ := World.cells?_some hc'
          obtain ⟨y, hy1⟩ := open_nrow he hii hc1 hy (by simpa using hlc)
          exact ⟨y, fun _ j hj => ⟨(hc2 j hj).trans (hy1 j hj).1, (hy1 j hj).2⟩⟩
        · exact ⟨fun _ => 0, fun q => absurd q hi⟩
      obtain ⟨b, off, spot⟩ := a
      have hspot : spot = none := by
        obtain ⟨y, e0⟩ := each 0
        simpa [Addr.add] using World.cell?_spot (e0 (by omega) 0 hk).1
      subst hspot
      have hcl : ∀ i j, ((⟨b, off, none⟩ : Addr).add (i * k)).add j = ⟨b, off + i * k + j, none⟩ := fun i j => by rw [add_plain, add_plain]
      refine .inr ⟨b, off, len, cap, fun i => Classical.choose (each i), rfl, by omega, hl, hm, ?_, fun i hi j hj => ?_⟩
      · obtain ⟨y, e0⟩ := each 0
        have e1 := (e0 (by omega) 0 hk).1
        rw [hcl] at e1
        exact block_lt_of_cell e1
      · have := Classical.choose_spec (each i) hi j hj
        rw [hcl] at this
        exact this

end Go.Proofs.Ytpkhfdcokcchdab
