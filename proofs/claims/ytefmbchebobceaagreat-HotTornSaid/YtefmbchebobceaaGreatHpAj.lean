/-
  HpAj: FrameN, FrameP, FrameV, FrameU, HvD.
-/
import Derived.Test.YtefmbchebobceaaGreatHkAa
import Derived.Test.YtefmbchebobceaaGreatHkAb
import Derived.Test.YtefmbchebobceaaGreatHkAc
import Derived.Test.YtefmbchebobceaaGreatHkAd
import Derived.Test.YtefmbchebobceaaGreatHkAe
import Derived.Test.YtefmbchebobceaaGreatHkAf
import Derived.Test.YtefmbchebobceaaGreatHkAg
import Derived.Test.YtefmbchebobceaaGreatHkAh
import Derived.Test.YtefmbchebobceaaGreatHkAi
import Derived.Test.YtefmbchebobceaaGreatHkAj
import Derived.Test.YtefmbchebobceaaGreatHkAk
import Derived.Test.YtefmbchebobceaaGreatHkAl
import Derived.Test.YtefmbchebobceaaGreatHkAm
import Derived.Test.YtefmbchebobceaaGreatHkAn
import Derived.Test.YtefmbchebobceaaGreatHkAo
import Derived.Test.YtefmbchebobceaaGreatHkAp
import Derived.Test.YtefmbchebobceaaGreatHkAq
import Derived.Test.YtefmbchebobceaaGreatHkAr
import Derived.Test.YtefmbchebobceaaGreatHkAs
import Derived.Test.YtefmbchebobceaaGreatHkAt
import Derived.Test.YtefmbchebobceaaGreatHkAu
import Derived.Test.YtefmbchebobceaaGreatHkAv
import Derived.Test.YtefmbchebobceaaGreatHkAw
import Derived.Test.YtefmbchebobceaaGreatHkAx
import Derived.Test.YtefmbchebobceaaGreatHkAy
import Derived.Test.YtefmbchebobceaaGreatHkAz
import Derived.Test.YtefmbchebobceaaGreatHkBa
import Derived.Test.YtefmbchebobceaaGreatHkBb
import Derived.Test.YtefmbchebobceaaGreatHkBc
import Derived.Test.YtefmbchebobceaaGreatHkBd
import Derived.Test.YtefmbchebobceaaGreatHkBe
import Derived.Test.YtefmbchebobceaaGreatHkBf
import Derived.Test.YtefmbchebobceaaGreatHkBg
import Derived.Test.YtefmbchebobceaaGreatHkBh
import Derived.Test.YtefmbchebobceaaGreatHkBi
import Derived.Test.YtefmbchebobceaaGreatHkBj
import Derived.Test.YtefmbchebobceaaGreatHkBk
import Derived.Test.YtefmbchebobceaaGreatHpAb
import Derived.Test.YtefmbchebobceaaGreatHpAa
import Derived.Test.YtefmbchebobceaaGreatHpAi
import Derived.Deep.Grids

set_option linter.unusedVariables false

/-
  Slices of acts (three integers, a word, a text, a list of bools) that come in as an argument of a law, opened.
-/
namespace Go.Proofs.YtefmbchebobceaaGreat
open Go.ChangeShapes Go.WideShapes Go.ChangeAt Go.RowKit
set_option linter.unusedVariables false

def I64 (x : Int) : Prop := -9223372036854775808 ≤ x ∧ x ≤ 9223372036854775807
end Go.Proofs.YtefmbchebobceaaGreat

/-
  A config (four integers, a word) that comes in as an argument of a law, opened.
-/
namespace Go.Proofs.YtefmbchebobceaaGreat
open Go.ChangeShapes Go.WideShapes Go.ChangeAt Go.RowKit
set_option linter.unusedVariables false

theorem okWide_strP {P : Program} {w : World} {r : Reach} {base : Nat} {t : TypeId} {v : Value} {fs : Array Field} (ht : P.underlying t = some (.struct fs)) (h : Value.okWide P w r base t v) : ∃ cs, v = .agg cs ∧ cs.size = P.cellsOf t := by
  simp only [Value.okWide, ht] at h
  obtain ⟨cs, h1, h2, _⟩ := h
  exact ⟨cs, h1, h2⟩
end Go.Proofs.YtefmbchebobceaaGreat

/-
  Layer 10: a config (five integers, a word) and slices of acts (four integers, a word, a text, a list of bools) that come in as arguments of a law, opened.
-/
namespace Go.Proofs.YtefmbchebobceaaGreat
open Go.ChangeShapes Go.WideShapes Go.ChangeAt Go.RowKit
set_option linter.unusedVariables false

def CfgB6 (x0 x1 x2 x3 x4 : Int) (x5 : Nat) : Prop := I64 x0 ∧ I64 x1 ∧ I64 x2 ∧ I64 x3 ∧ I64 x4 ∧ x5 < 18446744073709551616
theorem open_cfg6 {H : Type} {enc : TypeId × Value → H} {P : Program} {w : World} {base : Nat} {held : Bool} {T : TypeId} {fs : Array Field} {f0 f1 f2 f3 f4 f5 : Field} {v : Value} {b0 : Nat} {d : DataW H} {p : List MemPlace}
    (he : P.underlying T = some (.struct fs)) (h0 : fs[0]? = some f0) (h1 : fs[1]? = some f1) (h2 : fs[2]? = some f2) (h3 : fs[3]? = some f3) (h4 : fs[4]? = some f4) (h5 : fs[5]? = some f5)
    (o0 : f0.offset = 0) (o1 : f1.offset = 1) (o2 : f2.offset = 2) (o3 : f3.offset = 3) (o4 : f4.offset = 4) (o5 : f5.offset = 5)
    (t0 : P.underlying f0.type = some (.int .i64)) (t1 : P.underlying f1.type = some (.int .i64)) (t2 : P.underlying f2.type = some (.int .i64)) (t3 : P.underlying f3.type = some (.int .i64)) (t4 : P.underlying f4.type = some (.int .i64)) (t5 : P.underlying f5.type = some (.int .u64))
    (c0 : P.cellsOf f0.type = 1) (c1 : P.cellsOf f1.type = 1) (c2 : P.cellsOf f2.type = 1) (c3 : P.cellsOf f3.type = 1) (c4 : P.cellsOf f4.type = 1) (c5 : P.cellsOf f5.type = 1) (cT : P.cellsOf T = 6)
    (hv : Value.okWide P w .any b0 T v) (h : DataW.Trod enc P w base (fun _ => true) held T v d p) : ∃ (x0 x1 x2 x3 x4 : Int) (x5 : Nat), v = .agg #[.int .i64 x0, .int .i64 x1, .int .i64 x2, .int .i64 x3, .int .i64 x4, .int .u64 (x5 : Int)] ∧ CfgB6 x0 x1 x2 x3 x4 x5 := by
  obtain ⟨cs, rfl, hsz⟩ := okWide_strP he hv
  obtain ⟨fuel, hf⟩ := h
  have hf' : DataW.trod enc P w base (fun _ => true) held fuel T cs.toList = some (d, p) := hf
  obtain ⟨ys, n, _, _, hl, hy, hi⟩ := DataW.trod_struct he hf'
  have hsf : 5 < fs.size := (Array.getElem?_eq_some_iff.1 h5).1
  have key : ∀ (i : Nat) (v : Value), (cs.toList.drop i).take 1 = [v] → cs.toList[i]? = some v := fun i v hd => by
    have : (List.take 1 (List.drop i cs.toList))[0]? = some v := by rw [hd]; rfl
    rw [List.getElem?_take_of_lt (by omega), List.getElem?_drop, Nat.add_zero] at this
    exact this
  have r0 := hi 0 f0 h0
  have r1 := hi 1 f1 h1
  have r2 := hi 2 f2 h2
  have r3 := hi 3 f3 h3
  have r4 := hi 4 f4 h4
  have r5 := hi 5 f5 h5
  rw [o0, c0, List.getElem?_eq_getElem (by omega)] at r0
  rw [o1, c1, List.getElem?_eq_getElem (by omega)] at r1
  rw [o2, c2, List.getElem?_eq_getElem (by omega)] at r2
  rw [o3, c3, List.getElem?_eq_getElem (by omega)] at r3
  rw [o4, c4, List.getElem?_eq_getElem (by omega)] at r4
  rw [o5, c5, List.getElem?_eq_getElem (by omega)] at r5
  obtain ⟨x0, e0, _, w0⟩ := DataW.trod_int t0 r0
  obtain ⟨x1, e1, _, w1⟩ := DataW.trod_int t1 r1
  obtain ⟨x2, e2, _, w2⟩ := DataW.trod_int t2 r2
  obtain ⟨x3, e3, _, w3⟩ := DataW.trod_int t3 r3
  obtain ⟨x4, e4, _, w4⟩ := DataW.trod_int t4 r4
  obtain ⟨x5, e5, _, w5⟩ := DataW.trod_int t5 r5
  obtain ⟨u, rfl, hu⟩ := natU64 w5
  refine ⟨x0, x1, x2, x3, x4, u, ?_, bounds_i64 w0, bounds_i64 w1, bounds_i64 w2, bounds_i64 w3, bounds_i64 w4, hu⟩
  have k0 := key 0 _ e0
  have k1 := key 1 _ e1
  have k2 := key 2 _ e2
  have k3 := key 3 _ e3
  have k4 := key 4 _ e4
  have k5 := key 5 _ e5
  have hlen : cs.toList.length = 6 := by simpa [cT] using hsz
  have : cs.toList = [.int .i64 x0, .int .i64 x1, .int .i64 x2, .int .i64 x3, .int .i64 x4, .int .u64 (u : Int)] := by
    apply List.ext_getElem?
    intro i
    match i with
    | 0 => rw [k0]; rfl
    | 1 => rw [k1]; rfl
    | 2 => rw [k2]; rfl
    | 3 => rw [k3]; rfl
    | 4 => rw [k4]; rfl
    | 5 => rw [k5]; rfl
    | n + 6 => rw [List.getElem?_eq_none (by omega), List.getElem?_eq_none (by simp)]
  congr 1
  exact Array.ext' this

end Go.Proofs.YtefmbchebobceaaGreat

/-
  An array of strings by value, opened.
-/
namespace Go.Proofs.YtefmbchebobceaaGreat
open Go.RowKit

/-- An array of strings by value. -/
theorem open_sarr {H : Type} {enc : TypeId × Value → H} {P : Program} {w : World} {b0 base : Nat} {spare : Nat → Bool} {held : Bool} {t e : TypeId} {n : Nat} {v : Value} {d : DataW H} {p : List MemPlace}
    (ht : P.underlying t = some (.array n e)) (he : P.underlying e = some .string) (hc : P.cellsOf e = 1) (hn : P.cellsOf t = n)
    (hv : Value.okWide P w .any b0 t v) (h : DataW.Trod enc P w base spare held t v d p) :
    ∃ xs : List ByteArray, v = .agg (xs.map Value.string).toArray ∧ xs.length = n ∧ ∀ s ∈ xs, s.size ≤ maxLen := by
  obtain ⟨cs, rfl, hs⟩ := okWide_arr ht hv
  obtain ⟨fuel, hf⟩ := h
  obtain ⟨ys, m, _, _, hl, hy, hi⟩ := DataW.trod_array ht hf
  have hlen : cs.toList.length = n := by simpa [hn] using hs
  have key : ∀ i (h : i < cs.toList.length), ∃ x : ByteArray, cs.toList[i] = .string x ∧ x.size ≤ maxLen := by
    intro i hlt
    have h1 := hi i (by omega)
    rw [hc, Nat.mul_one, List.getElem?_eq_getElem (by omega)] at h1
    obtain ⟨x, hx, _, hxs⟩ := DataW.trod_string he h1
    refine ⟨x, ?_, hxs⟩
    have h2 : (List.take 1 (List.drop i cs.toList))[0]? = some (Value.string x) := by
      have : List.take 1 (List.drop i cs.toList) = [Value.string x] := hx
      rw [this]; rfl
    rw [List.getElem?_take_of_lt (by omega), List.getElem?_drop, Nat.add_zero, List.getElem?_eq_getElem hlt] at h2
    exact Option.some.inj h2
  refine ⟨cs.toList.map fun c => match c with | .string x => x | _ => ⟨#[]⟩, ?_, by simpa using hlen, ?_⟩
  · have e1 : (cs.toList.map fun c => match c with | .string x => x | _ => ⟨#[]⟩).map Value.string = cs.toList := by
      apply List.ext_getElem (by simp)
      intro i h1 h2
      obtain ⟨x, hx, _⟩ := key i h2
      simp only [List.getElem_map, hx]
    rw [e1]
  · intro s hs
    obtain ⟨i, hi2, rfl⟩ := List.getElem_of_mem hs
    have h2 : i < cs.toList.length := by simpa using hi2
    obtain ⟨x, hx, hxs⟩ := key i h2
    simp only [List.getElem_map, hx]
    exact hxs

theorem weights_all_mem {H : Type} {P : Program} {e : TypeId} : ∀ {ds : List (DataW H)} {d : DataW H}, d ∈ ds → ∀ n ∈ d.weights P e, n ∈ DataW.weightsAll P e ds
  | d0 :: ds, d, hd, n, hn => by
    simp only [DataW.weightsAll, List.mem_append]
    rcases List.mem_cons.1 hd with rfl | hd
    · exact .inl hn
    · exact .inr (weights_all_mem hd n hn)
/-- An array of strings by value, of a size that a machine can hold. -/
theorem open_sarrR {H : Type} {enc : TypeId × Value → H} {P : Program} {w : World} {b0 base : Nat} {spare : Nat → Bool} {held : Bool} {t e : TypeId} {n : Nat} {v : Value} {d : DataW H} {p : List MemPlace} {ts : List TypeId} {ds : List (DataW H)} {j : Nat}
    (ht : P.underlying t = some (.array n e)) (he : P.underlying e = some .string) (hc : P.cellsOf e = 1) (hn : P.cellsOf t = n)
    (hv : Value.okWide P w .any b0 t v) (h : DataW.Trod enc P w base spare held t v d p)
    (hsz : (DataW.weightsEach P ts ds).all (· ≤ reachBytes) = true) (hjt : ts[j]? = some t) (hjd : ds[j]? = some d) :
    ∃ xs : List ByteArray, v = .agg (xs.map Value.string).toArray ∧ xs.length = n ∧ ∀ s ∈ xs, s.size ≤ maxLen ∧ s.size ≤ reachBytes := by
  obtain ⟨xs, h1, h2, h3⟩ := open_sarr ht he hc hn hv h
  refine ⟨xs, h1, h2, fun s hs => ⟨h3 s hs, ?_⟩⟩
  obtain ⟨fuel, hf⟩ := h
  rw [h1] at hf
  obtain ⟨ys, m, _, hy0, hl, hy, hi⟩ := DataW.trod_array ht hf
  obtain ⟨i, hi2, rfl⟩ := List.getElem_of_mem hs
  have k1 := hi i (by omega)
  rw [hc, Nat.mul_one, List.getElem?_eq_getElem (by omega)] at k1
  obtain ⟨x, hx, hx2, _⟩ := DataW.trod_string he k1
  have h4 : x = xs[i] := by
    have : (List.take 1 (List.drop i (Value.agg (xs.map Value.string).toArray).cells.toList))[0]? = some (Value.string x) := by rw [hx]; rfl
    simp [Value.cells] at this
    have h5 := List.getElem?_eq_getElem (l := xs) (i := i) hi2
    rw [h5] at this
    simpa using this.symm
  rw [← h4]
  have hd : d = .agg (ys.map (·.1)) := (Prod.mk.inj hy0).1
  have hm : DataW.lit (.string x.data.toList) ∈ ys.map (·.1) := by
    rw [List.mem_map]
    exact ⟨ys[i]'(by omega), List.getElem_mem _, by rw [hx2]⟩
  have := List.all_eq_true.1 hsz _ (DataW.weights_mem_each hjt hjd x.data.toList.length (by
    rw [hd]
    simp only [DataW.weights, ht]
    exact weights_all_mem hm _ (by simp [DataW.weights])))
  simpa using this

end Go.Proofs.YtefmbchebobceaaGreat

/-
  HotTorn's walk, its arguments as the form has them.
-/
namespace Go.Proofs.YtefmbchebobceaaGreat
open Go.RowKit
set_option linter.unusedVariables false

theorem walk_HotTorn (x0 x1 x2 x3 x4 : Int) (x5 : Nat) (a1 : List ByteArray) (a2 : List Int) {w : World} (hx : CfgB6 x0 x1 x2 x3 x4 x5) (l1 : a1.length = 2) (w1 : ∀ x ∈ a1, x.size ≤ maxLen ∧ x.size ≤ reachBytes) (l2 : a2.length = 3) (w2 : ∀ x ∈ a2, (Lit.int .u16 x).wf = true) :
    Calls Tryz.prog 6 #[.agg #[.int .i64 x0, .int .i64 x1, .int .i64 x2, .int .i64 x3, .int .i64 x4, .int .u64 (x5 : Int)], .agg (a1.map Value.string).toArray, .agg (a2.map (Value.int .u16)).toArray] w fun e w' => e = .returned (.bool true) ∧ Below w.heap.size w w' := by
  obtain ⟨s, t, rfl⟩ : ∃ s t, a1 = [s, t] := by
    match a1, l1 with
    | [s, t], _ => exact ⟨s, t, rfl⟩
  obtain ⟨x, y, z, rfl⟩ : ∃ x y z, a2 = [x, y, z] := by
    match a2, l2 with
    | [x, y, z], _ => exact ⟨x, y, z, rfl⟩
  obtain ⟨p, rfl, hp⟩ := natU16 (w2 x (by simp))
  obtain ⟨q, rfl, hq⟩ := natU16 (w2 y (by simp))
  obtain ⟨r, rfl, hr⟩ := natU16 (w2 z (by simp))
  have hs := (w1 s (by simp)).2
  have ht := (w1 t (by simp)).2
  unfold reachBytes at hs ht
  exact (htorn_law x0 x1 x2 x3 x4 x5 s t p q r hx.2.2.2.2.2 hp hq hr (by omega) (by omega)).mono fun _ _ q => ⟨q.1, q.2.below0⟩
end Go.Proofs.YtefmbchebobceaaGreat
