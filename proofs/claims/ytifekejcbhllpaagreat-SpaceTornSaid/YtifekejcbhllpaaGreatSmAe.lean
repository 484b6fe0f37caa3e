/-
  SmAe: FrameU, SqOa.
-/
import Derived.Test.YtifekejcbhllpaaGreatSkAa
import Derived.Test.YtifekejcbhllpaaGreatSkAb
import Derived.Test.YtifekejcbhllpaaGreatSkAc
import Derived.Test.YtifekejcbhllpaaGreatSkAd
import Derived.Test.YtifekejcbhllpaaGreatSkAe
import Derived.Test.YtifekejcbhllpaaGreatSkAf
import Derived.Test.YtifekejcbhllpaaGreatSkAg
import Derived.Test.YtifekejcbhllpaaGreatSkAh
import Derived.Test.YtifekejcbhllpaaGreatSkAi
import Derived.Test.YtifekejcbhllpaaGreatSkAj
import Derived.Test.YtifekejcbhllpaaGreatSkAk
import Derived.Test.YtifekejcbhllpaaGreatSkAl
import Derived.Test.YtifekejcbhllpaaGreatSkAm
import Derived.Test.YtifekejcbhllpaaGreatSkAn
import Derived.Test.YtifekejcbhllpaaGreatSkAo
import Derived.Test.YtifekejcbhllpaaGreatSkAp
import Derived.Test.YtifekejcbhllpaaGreatSkAq
import Derived.Test.YtifekejcbhllpaaGreatSkAr
import Derived.Test.YtifekejcbhllpaaGreatSkAs
import Derived.Test.YtifekejcbhllpaaGreatSkAt
import Derived.Test.YtifekejcbhllpaaGreatSkAu
import Derived.Test.YtifekejcbhllpaaGreatSkAv
import Derived.Test.YtifekejcbhllpaaGreatSkAw
import Derived.Test.YtifekejcbhllpaaGreatSkAx
import Derived.Test.YtifekejcbhllpaaGreatSkAy
import Derived.Test.YtifekejcbhllpaaGreatSkAz
import Derived.Test.YtifekejcbhllpaaGreatSkBa
import Derived.Test.YtifekejcbhllpaaGreatSkBb
import Derived.Test.YtifekejcbhllpaaGreatSkBc
import Derived.Test.YtifekejcbhllpaaGreatSkBd
import Derived.Test.YtifekejcbhllpaaGreatSkBe
import Derived.Test.YtifekejcbhllpaaGreatSkBf
import Derived.Test.YtifekejcbhllpaaGreatSkBg
import Derived.Test.YtifekejcbhllpaaGreatSkBh
import Derived.Test.YtifekejcbhllpaaGreatSkBi
import Derived.Test.YtifekejcbhllpaaGreatSkBj
import Derived.Test.YtifekejcbhllpaaGreatSkBk
import Derived.Test.YtifekejcbhllpaaGreatSkBl
import Derived.Test.YtifekejcbhllpaaGreatSkBm
import Derived.Test.YtifekejcbhllpaaGreatSkBn
import Derived.Test.YtifekejcbhllpaaGreatSmAa
import Derived.Test.YtifekejcbhllpaaGreatSmAd
import Derived.Deep.Grids

set_option linter.unusedVariables false

/-
  An array of strings by value, opened.
-/
namespace Go.Proofs.YtifekejcbhllpaaGreat
open Go.RowKit

/-- An array of strings by value. -/
theorem open_sarr {H : Type} {enc : TypeId × Value → H} {P : Program} {w : World} {b0 base : Nat} {spare : Nat → Bool} {held : Bool} {t e : TypeId} {n : Nat} {v : Value} {d : DataW H} {p : List MemPlace}
    (ht : P.underlying t = some (.array n e)) (he : P.underlying e = some .string) (hc : P.cellsOf e = 1) (hn : P.cellsOf t = n)
    (hv : Value.okWide P w .any b0 t v) (h : DataW.Trod enc P w base spare held t v d p) :
    ∃ xs : List ByteArray, v = .agg (xs.map Value.string).toArray ∧ xs.length = n ∧ ∀ s ∈ xs, s.size ≤ maxLen := by
  obtain ⟨cs, rfl, hs⟩ := okWide_arr ht hv
  obtain ⟨fuel, hf⟩ := h
  obtain ⟨ys, m, _, _, hl, hy, hi⟩ := DataW.trod_array ht hf
  have hlen : cs.toList.length = n := by simpa [hn] using hs
  have key : ∀ i (h : i < cs.toList.length), ∃ x : ByteArray, cs.toList[i] = .string x ∧ x.size ≤ maxLen := by
    intro i hlt
    have h1 := hi i (by omega)
    rw [hc, Nat.mul_one, List.getElem?_eq_getElem (by omega)] at h1
    obtain ⟨x, hx, _, hxs⟩ := DataW.trod_string he h1
    refine ⟨x, ?_, hxs⟩
    have h2 : (List.take 1 (List.drop i cs.toList))[0]? = some (Value.string x) := by
      have : List.take 1 (List.drop i cs.toList) = [Value.string x] := hx
      rw [this]; rfl
    rw [List.getElem?_take_of_lt (by omega), List.getElem?_drop, Nat.add_zero, List.getElem?_eq_getElem hlt] at h2
    exact Option.some.inj h2
  refine ⟨cs.toList.map fun c => match c with | .string x => x | _ => ⟨#[]⟩, ?_, by simpa using hlen, ?_⟩
  · have e1 : (cs.toList.map fun c => match c with | .string x => x | _ => ⟨#[]⟩).map Value.string = cs.toList := by
      apply List.ext_getElem (by simp)
      intro i h1 h2
      obtain ⟨x, hx, _⟩ := key i h2
      simp only [List.getElem_map, hx]
    rw [e1]
  · intro s hs
    obtain ⟨i, hi2, rfl⟩ := List.getElem_of_mem hs
    have h2 : i < cs.toList.length := by simpa using hi2
    obtain ⟨x, hx, hxs⟩ := key i h2
    simp only [List.getElem_map, hx]
    exact hxs

theorem weights_all_mem {H : Type} {P : Program} {e : TypeId} : ∀ {ds : List (DataW H)} {d : DataW H}, d ∈ ds → ∀ n ∈ d.weights P e, n ∈ DataW.weightsAll P e ds
  | d0 :: ds, d, hd, n, hn => by
    simp only [DataW.weightsAll, List.mem_append]
    rcases List.mem_cons.1 hd with rfl | hd
    · exact .inl hn
    · exact .inr (weights_all_mem hd n hn)
/-- An array of strings by value, of a size that a machine can hold. -/
theorem open_sarrR {H : Type} {enc : TypeId × Value → H} {P : Program} {w : World} {b0 base : Nat} {spare : Nat → Bool} {held : Bool} {t e : TypeId} {n : Nat} {v : Value} {d : DataW H} {p : List MemPlace} {ts : List TypeId} {ds : List (DataW H)} {j : Nat}
    (ht : P.underlying t = some (.array n e)) (he : P.underlying e = some .string) (hc : P.cellsOf e = 1) (hn : P.cellsOf t = n)
    (hv : Value.okWide P w .any b0 t v) (h : DataW.Trod enc P w base spare held t v d p)
    (hsz : (DataW.weightsEach P ts ds).all (· ≤ reachBytes) = true) (hjt : ts[j]? = some t) (hjd : ds[j]? = some d) :
    ∃ xs : List ByteArray, v = .agg (xs.map Value.string).toArray ∧ xs.length = n ∧ ∀ s ∈ xs, s.size ≤ maxLen ∧ s.size ≤ reachBytes := by
  obtain ⟨xs, h1, h2, h3⟩ := open_sarr ht he hc hn hv h
  refine ⟨xs, h1, h2, fun s hs => ⟨h3 s hs, ?_⟩⟩
  obtain ⟨fuel, hf⟩ := h
  rw [h1] at hf
  obtain ⟨ys, m, _, hy0, hl, hy, hi⟩ := DataW.trod_array ht hf
  obtain ⟨i, hi2, rfl⟩ := List.getElem_of_mem hs
  have k1 := hi i (by omega)
  rw [hc, Nat.mul_one, List.getElem?_eq_getElem (by omega)] at k1
  obtain ⟨x, hx, hx2, _⟩ := DataW.trod_string he k1
  have h4 : x = xs[i] := by
    have : (List.take 1 (List.drop i (Value.agg (xs.map Value.string).toArray).cells.toList))[0]? = some (Value.string x) := by rw [hx]; rfl
    simp [Value.cells] at this
    have h5 := List.getElem?_eq_getElem (l := xs) (i := i) hi2
    rw [h5] at this
    simpa using this.symm
  rw [← h4]
  have hd : d = .agg (ys.map (·.1)) := (Prod.mk.inj hy0).1
  have hm : DataW.lit (.string x.data.toList) ∈ ys.map (·.1) := by
    rw [List.mem_map]
    exact ⟨ys[i]'(by omega), List.getElem_mem _, by rw [hx2]⟩
  have := List.all_eq_true.1 hsz _ (DataW.weights_mem_each hjt hjd x.data.toList.length (by
    rw [hd]
    simp only [DataW.weights, ht]
    exact weights_all_mem hm _ (by simp [DataW.weights])))
  simpa using this

end Go.Proofs.YtifekejcbhllpaaGreat

/-
  SpaceTorn's walk, its arguments as the form has them.
-/
namespace Go.Proofs.YtifekejcbhllpaaGreat
open Go.RowKit
set_option linter.unusedVariables false

theorem walk_SpaceTorn (a0 : List ByteArray) (a1 : List Int) (x : Int) (l0 : a0.length = 2) (w0 : ∀ x ∈ a0, x.size ≤ maxLen ∧ x.size ≤ reachBytes) (l1 : a1.length = 3) (w1 : ∀ x ∈ a1, (Lit.int .u16 x).wf = true) (w2 : (Lit.int .u64 x).wf = true) (w : World) :
    Calls Tryz.prog 5 #[.agg (a0.map Value.string).toArray, .agg (a1.map (Value.int .u16)).toArray, .int .u64 x] w fun e w' => e = .returned (.bool true) ∧ Below w.heap.size w w' := by
  obtain ⟨s, t, rfl⟩ : ∃ s t, a0 = [s, t] := by
    match a0, l0 with
    | [s, t], _ => exact ⟨s, t, rfl⟩
  obtain ⟨x1, y1, z1, rfl⟩ : ∃ x y z, a1 = [x, y, z] := by
    match a1, l1 with
    | [x, y, z], _ => exact ⟨x, y, z, rfl⟩
  obtain ⟨p, rfl, hp⟩ := natU16 (w1 x1 (by simp))
  obtain ⟨q, rfl, hq⟩ := natU16 (w1 y1 (by simp))
  obtain ⟨r, rfl, hr⟩ := natU16 (w1 z1 (by simp))
  obtain ⟨k, rfl, hk⟩ := natU64 w2
  have hs := (w0 s (by simp)).2
  have ht := (w0 t (by simp)).2
  unfold reachBytes at hs ht
  exact (storn_law s t p q r k hp hq hr hk (by omega) (by omega)).mono fun _ _ q => ⟨q.1, q.2.below0⟩
end Go.Proofs.YtifekejcbhllpaaGreat
