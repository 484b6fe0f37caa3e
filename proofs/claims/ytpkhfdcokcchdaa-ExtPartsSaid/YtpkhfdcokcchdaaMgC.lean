/-
  MgC: Frame, FrameS, FrameT, FrameI, FrameJ, ExN, ExO.
-/
import Derived.Test.YtpkhfdcokcchdaaRows
import Derived.WalkKit
import Derived.ProofKit
import Derived.OpenShut
import Derived.SizedLaws
import Derived.ChangeSlices
import Derived.Deep.Slices
import Derived.Deep.Grids
import Derived.Test.YtpkhfdcokcchdaaMgB

/-
  The frame of a law's row, the part that is the same for all: arrays of integers opened; facts on the program.
-/
namespace Go.Proofs.Ytpkhfdcokcchdaa
open Go.ChangeShapes Go.WideShapes Go.ChangeAt Go.RowKit

theorem own_ : ownKnob Try.prog.godebug = none := by kernel_rfl
theorem laid_ : laidOutB Try.prog = true := by kernel_rfl

theorem okWide_arr {P : Program} {w : World} {r : Reach} {base : Nat} {t : TypeId} {v : Value} {n : Nat} {e : TypeId} (ht : P.underlying t = some (.array n e)) (h : Value.okWide P w r base t v) : ∃ cs, v = .agg cs ∧ cs.size = P.cellsOf t := by
  simp only [Value.okWide, ht] at h
  obtain ⟨cs, h1, h2, _⟩ := h
  exact ⟨cs, h1, h2⟩

/-- An array of integers by value, opened. -/
theorem open_ints_array {H : Type} {enc : TypeId × Value → H} {P : Program} {w : World} {b0 base : Nat} {spare : Nat → Bool} {held : Bool} {t e : TypeId} {n : Nat} {k : IntKind} {v : Value} {d : DataW H} {p : List MemPlace}
    (ht : P.underlying t = some (.array n e)) (he : P.underlying e = some (.int k)) (hc : P.cellsOf e = 1) (hn : P.cellsOf t = n)
    (hv : Value.okWide P w .any b0 t v) (h : DataW.Trod enc P w base spare held t v d p) :
    ∃ xs : List Int, v = .agg (xs.map (Value.int k)).toArray ∧ xs.length = n ∧ ∀ x ∈ xs, (Lit.int k x).wf = true := by
  obtain ⟨cs, rfl, hs⟩ := okWide_arr ht hv
  obtain ⟨fuel, hf⟩ := h
  obtain ⟨ys, m, _, _, hl, hy, hi⟩ := DataW.trod_array ht hf
  have hlen : cs.toList.length = n := by simpa [hn] using hs
  have key : ∀ i (h : i < cs.toList.length), ∃ x, cs.toList[i] = .int k x ∧ (Lit.int k x).wf = true := by
    intro i hlt
    have h1 := hi i (by omega)
    rw [hc, Nat.mul_one, List.getElem?_eq_getElem (by omega)] at h1
    obtain ⟨x, hx, _, hw⟩ := DataW.trod_int he h1
    refine ⟨x, ?_, hw⟩
    have h2 : (List.take 1 (List.drop i cs.toList))[0]? = some (Value.int k x) := by
      have : List.take 1 (List.drop i cs.toList) = [Value.int k x] := hx
      rw [this]; rfl
    rw [List.getElem?_take_of_lt (by omega), List.getElem?_drop, Nat.add_zero, List.getElem?_eq_getElem hlt] at h2
    exact Option.some.inj h2
  refine ⟨cs.toList.map fun c => match c with | .int _ x => x | _ => 0, ?_, by simpa using hlen, ?_⟩
  · have e1 : (cs.toList.map fun c => match c with | .int _ x => x | _ => 0).map (Value.int k) = cs.toList := by
      apply List.ext_getElem (by simp)
      intro i h1 h2
      obtain ⟨x, hx, _⟩ := key i h2
      simp only [List.getElem_map, hx]
    rw [e1]
  · intro x hx
    obtain ⟨c, hc1, hc2⟩ := List.mem_map.1 hx
    obtain ⟨i, hi1, hi2⟩ := List.getElem_of_mem hc1
    obtain ⟨y, hy1, hy2⟩ := key i hi1
    rw [← hc2, ← hi2, hy1]
    exact hy2

end Go.Proofs.Ytpkhfdcokcchdaa

/-
  Slices that come in as arguments of a law, opened: of integers.
-/
namespace Go.Proofs.Ytpkhfdcokcchdaa
open Go.ChangeShapes Go.WideShapes Go.ChangeAt Go.RowKit

/-- The slice v reads in w as the integers xs. -/
def SlI (k : IntKind) (w : World) (v : Value) (xs : List Int) : Prop :=
  (∃ ao cap, v = .slice ao 0 cap ∧ xs = [] ∧ (ao = none → cap = 0) ∧ cap ≤ maxLen) ∨
  ∃ b off cap, v = .slice (some ⟨b, off, none⟩) xs.length cap ∧ 0 < xs.length ∧ xs.length ≤ cap ∧ cap ≤ maxLen ∧ b < w.heap.size ∧ ∀ i x, xs[i]? = some x → w.cell? ⟨b, off + i, none⟩ = some (.int k x)

theorem open_il {H : Type} {enc : TypeId × Value → H} {P : Program} {w : World} {b0 base : Nat} {held : Bool} {t e : TypeId} {k : IntKind} {v : Value} {d : DataW H} {p : List MemPlace}
    (ht : P.underlying t = some (.slice e)) (he : P.underlying e = some (.int k)) (hc : P.cellsOf e = 1)
    (hv : Value.okWide P w .any b0 t v) (h : DataW.Trod enc P w base (fun _ => true) held t v d p) :
    ∃ xs : List Int, SlI k w v xs ∧ ∀ x ∈ xs, (Lit.int k x).wf = true := by
  obtain ⟨a0, len, cap, rfl⟩ := okWide_slice ht hv
  obtain ⟨fuel, hf⟩ := h
  rcases open_ints ht he hc hf with ⟨hcs, hx⟩ | ⟨a, len', cap', zs, hcs, _, hl, hm, hz, hx, hcell, hwz⟩
  · simp [Value.cells] at hcs
    obtain ⟨rfl, rfl, rfl⟩ := hcs
    exact ⟨[], .inl ⟨none, 0, rfl, rfl, fun _ => rfl, Nat.zero_le _⟩, fun x hx => by cases hx⟩
  · simp [Value.cells] at hcs
    obtain ⟨rfl, rfl, rfl⟩ := hcs
    simp only [if_true] at hz
    by_cases h0 : len = 0
    · subst h0
      exact ⟨[], .inl ⟨some a, cap, rfl, rfl, (fun e => by cases e), hm⟩, (fun x hx => by cases hx)⟩
    · obtain ⟨b, off, spot⟩ := a
      have hspot : spot = none := by simpa [Addr.add] using World.cell?_spot (hcell 0 (by omega))
      subst hspot
      have hlen : (zs.take len).length = len := by simp; omega
      refine ⟨zs.take len, .inr ⟨b, off, cap, by rw [hlen], by omega, by omega, hm, ?_, fun i x hi => ?_⟩, fun x hx => hwz x (List.mem_of_mem_take hx)⟩
      · have := block_lt_of_cell (hcell 0 (by omega))
        simpa [Addr.add] using this
      · have hil : i < len := by
          have := (List.getElem?_eq_some_iff.1 hi).1
          rw [hlen] at this
          exact this
        have hc1 := hcell i (by omega)
        rw [add_plain] at hc1
        rw [hc1]
        rw [List.getElem?_take_of_lt hil] at hi
        simp [List.getD, hi]

end Go.Proofs.Ytpkhfdcokcchdaa

/-
  Arguments of a law, opened: slices of bools, arrays of bools, arrays of arrays of integers.
-/
namespace Go.Proofs.Ytpkhfdcokcchdaa
open Go.ChangeShapes Go.WideShapes Go.ChangeAt Go.RowKit Go.Deep

/-- The slice v reads in w as the bools kp below kl. -/
def SlB (w : World) (v : Value) (kl : Nat) (kp : Nat → Bool) : Prop := ∃ ao kc, v = .slice ao kl kc ∧ (∀ j, j < kl → ∃ b o, ao = some ⟨b, o, none⟩ ∧ b < w.heap.size ∧ w.cell? ⟨b, o + j, none⟩ = some (.bool (kp j))) ∧ (∀ j, kl ≤ j → kp j = false) ∧ kl ≤ maxLen ∧ kl ≤ kc ∧ kc ≤ maxLen ∧ (ao = none → kc = 0)
theorem open_bl_raw {H : Type} {enc : TypeId × Value → H} {P : Program} {w : World} {base : Nat} {held : Bool} {t e : TypeId} {cs : List Value} {x : DataW H × List MemPlace} {fuel : Nat}
    (ht : P.underlying t = some (.slice e)) (he : P.underlying e = some .bool) (hc : P.cellsOf e = 1) (h : DataW.trod enc P w base (fun _ => true) held fuel t cs = some x) :
    ∃ v kl kp, cs = [v] ∧ SlB w v kl kp := by
  rcases open_bools ht he hc h with ⟨hcs, hx⟩ | ⟨a, len, cap, B, hcs, hb, hl, hm, hx, hcell⟩
  · exact ⟨_, 0, fun _ => false, hcs, none, 0, rfl, (fun j hj => by omega), (fun _ _ => rfl), Nat.zero_le _, Nat.le_refl _, Nat.zero_le _, fun _ => rfl⟩
  · refine ⟨_, len, fun j => if j < len then B j else false, hcs, some a, cap, rfl, fun j hj => ?_, fun j hj => if_neg (by omega), by omega, hl, hm, fun e => by cases e⟩
    obtain ⟨b, off, spot⟩ := a
    have hspot : spot = none := by simpa [Addr.add] using World.cell?_spot (hcell 0 (by omega))
    subst hspot
    have hc1 := hcell j (by omega)
    rw [add_plain] at hc1
    refine ⟨b, off, rfl, ?_, ?_⟩
    · have := block_lt_of_cell hc1
      exact this
    · dsimp only; rw [hc1, if_pos hj]
theorem open_bl {H : Type} {enc : TypeId × Value → H} {P : Program} {w : World} {base : Nat} {held : Bool} {t e : TypeId} {v : Value} {b0 : Nat} {d : DataW H} {p : List MemPlace}
    (ht : P.underlying t = some (.slice e)) (he : P.underlying e = some .bool) (hc : P.cellsOf e = 1) (hv : Value.okWide P w .any b0 t v) (h : DataW.Trod enc P w base (fun _ => true) held t v d p) :
    ∃ kl kp, SlB w v kl kp := by
  obtain ⟨a0, len, cap, rfl⟩ := okWide_slice ht hv
  obtain ⟨fuel, hf⟩ := h
  obtain ⟨v', kl, kp, hcs, hs⟩ := open_bl_raw ht he hc hf
  simp [Value.cells] at hcs
  subst hcs
  exact ⟨kl, kp, hs⟩

/-- An array of bools by value. -/
theorem open_barr {H : Type} {enc : TypeId × Value → H} {P : Program} {w : World} {b0 base : Nat} {spare : Nat → Bool} {held : Bool} {t e : TypeId} {n : Nat} {v : Value} {d : DataW H} {p : List MemPlace}
    (ht : P.underlying t = some (.array n e)) (he : P.underlying e = some .bool) (hc : P.cellsOf e = 1) (hn : P.cellsOf t = n)
    (hv : Value.okWide P w .any b0 t v) (h : DataW.Trod enc P w base spare held t v d p) :
    ∃ xs : List Bool, v = .agg (xs.map Value.bool).toArray ∧ xs.length = n := by
  obtain ⟨cs, rfl, hs⟩ := okWide_arr ht hv
  obtain ⟨fuel, hf⟩ := h
  obtain ⟨ys, m, _, _, hl, hy, hi⟩ := DataW.trod_array ht hf
  have hlen : cs.toList.length = n := by simpa [hn] using hs
  have key : ∀ i (h : i < cs.toList.length), ∃ x, cs.toList[i] = .bool x := by
    intro i hlt
    have h1 := hi i (by omega)
    rw [hc, Nat.mul_one, List.getElem?_eq_getElem (by omega)] at h1
    obtain ⟨x, hx, _⟩ := DataW.trod_bool he h1
    refine ⟨x, ?_⟩
    have h2 : (List.take 1 (List.drop i cs.toList))[0]? = some (Value.bool x) := by
      have : List.take 1 (List.drop i cs.toList) = [Value.bool x] := hx
      rw [this]; rfl
    rw [List.getElem?_take_of_lt (by omega), List.getElem?_drop, Nat.add_zero, List.getElem?_eq_getElem hlt] at h2
    exact Option.some.inj h2
  refine ⟨cs.toList.map fun c => match c with | .bool x => x | _ => false, ?_, by simpa using hlen⟩
  have e1 : (cs.toList.map fun c => match c with | .bool x => x | _ => false).map Value.bool = cs.toList := by
    apply List.ext_getElem (by simp)
    intro i h1 h2
    obtain ⟨x, hx⟩ := key i h2
    simp only [List.getElem_map, hx]
  rw [e1]

/-- The cells of an array of integers, read. -/
theorem trod_ints_array {H : Type} {enc : TypeId × Value → H} {P : Program} {w : World} {base : Nat} {spare : Nat → Bool} {held : Bool} {t e : TypeId} {n : Nat} {k : IntKind} {cs : List Value} {x : DataW H × List MemPlace} {fuel : Nat}
    (ht : P.underlying t = some (.array n e)) (he : P.underlying e = some (.int k)) (hc : P.cellsOf e = 1) (hn : P.cellsOf t = n) (hf : DataW.trod enc P w base spare held fuel t cs = some x) :
    cs.length = n ∧ ∀ i, i < n → ∃ z, cs[i]? = some (.int k z) ∧ (Lit.int k z).wf = true := by
  obtain ⟨ys, m, _, _, hl, hy, hi⟩ := DataW.trod_array ht hf
  refine ⟨by rw [hl, hn], fun i hlt => ?_⟩
  have h1 := hi i hlt
  rw [hc, Nat.mul_one, List.getElem?_eq_getElem (by omega)] at h1
  obtain ⟨z, hz, _, hw⟩ := DataW.trod_int he h1
  refine ⟨z, ?_, hw⟩
  have h2 : (List.take 1 (List.drop i cs))[0]? = some (Value.int k z) := by
    have : List.take 1 (List.drop i cs) = [Value.int k z] := hz
    rw [this]; rfl
  rw [List.getElem?_take_of_lt (by omega), List.getElem?_drop, Nat.add_zero] at h2
  exact h2
/-- An array of arrays of integers by value, flat. -/
theorem open_grid {H : Type} {enc : TypeId × Value → H} {P : Program} {w : World} {b0 base : Nat} {spare : Nat → Bool} {held : Bool} {t r e : TypeId} {m n : Nat} {k : IntKind} {v : Value} {d : DataW H} {p : List MemPlace}
    (ht : P.underlying t = some (.array m r)) (hr : P.underlying r = some (.array n e)) (he : P.underlying e = some (.int k)) (hc : P.cellsOf e = 1) (hn : P.cellsOf r = n) (hm : P.cellsOf t = m * n) (hn0 : 0 < n)
    (hv : Value.okWide P w .any b0 t v) (h : DataW.Trod enc P w base spare held t v d p) :
    ∃ xs : List Int, v = .agg (xs.map (Value.int k)).toArray ∧ xs.length = m * n ∧ ∀ x ∈ xs, (Lit.int k x).wf = true := by
  obtain ⟨cs, rfl, hs⟩ := okWide_arr ht hv
  obtain ⟨fuel, hf⟩ := h
  obtain ⟨ys, fu, _, _, hl, hy, hi⟩ := DataW.trod_array ht hf
  have hlen : cs.toList.length = m * n := by simpa [hm] using hs
  have key : ∀ i (h : i < cs.toList.length), ∃ x, cs.toList[i] = .int k x ∧ (Lit.int k x).wf = true := by
    intro i hlt
    have hq : i / n < m := by
      rw [Nat.div_lt_iff_lt_mul hn0]
      omega
    have h1 := hi (i / n) hq
    rw [hn, List.getElem?_eq_getElem (by omega)] at h1
    obtain ⟨_, h3⟩ := trod_ints_array hr he hc hn h1
    obtain ⟨z, hz, hw⟩ := h3 (i % n) (Nat.mod_lt _ hn0)
    refine ⟨z, ?_, hw⟩
    have h2 : (List.take n (List.drop (i / n * n) cs.toList))[i % n]? = some (Value.int k z) := hz
    rw [List.getElem?_take_of_lt (Nat.mod_lt _ hn0), List.getElem?_drop, Nat.mul_comm, Nat.div_add_mod, List.getElem?_eq_getElem hlt] at h2
    exact Option.some.inj h2
  refine ⟨cs.toList.map fun c => match c with | .int _ x => x | _ => 0, ?_, by simpa using hlen, ?_⟩
  · have e1 : (cs.toList.map fun c => match c with | .int _ x => x | _ => 0).map (Value.int k) = cs.toList := by
      apply List.ext_getElem (by simp)
      intro i h1 h2
      obtain ⟨x, hx, _⟩ := key i h2
      simp only [List.getElem_map, hx]
    rw [e1]
  · intro x hx
    obtain ⟨c, hc1, hc2⟩ := List.mem_map.1 hx
    obtain ⟨i, hi1, hi2⟩ := List.getElem_of_mem hc1
    obtain ⟨y, hy1, hy2⟩ := key i hi1
    rw [← hc2, ← hi2, hy1]
    exact hy2

end Go.Proofs.Ytpkhfdcokcchdaa

/-
  Openers: slices of structs of ints alone.
-/
namespace Go.Proofs.Ytpkhfdcokcchdaa
open Go.ChangeShapes Go.WideShapes Go.ChangeAt Go.RowKit
set_option linter.unusedVariables false

/-- A slice of structs of k ints each. -/
def SlN (k : Nat) (w : World) (v : Value) : Prop :=
  (∃ ao cap, v = .slice ao 0 cap ∧ (ao = none → cap = 0) ∧ cap ≤ maxLen) ∨
  ∃ b off n cap, ∃ f : Nat → Nat → Int, v = .slice (some ⟨b, off, none⟩) n cap ∧ 0 < n ∧ n ≤ cap ∧ cap ≤ maxLen ∧ b < w.heap.size ∧ ∀ i, i < n → ∀ j, j < k → w.cell? ⟨b, off + i * k + j, none⟩ = some (.int .i64 (f i j)) ∧ (-9223372036854775808 ≤ f i j ∧ f i j ≤ 9223372036854775807)
theorem open_nact {H : Type} {enc : TypeId × Value → H} {P : Program} {w : World} {base : Nat} {held : Bool} {e : TypeId} {fs : Array Field} {cs : List Value} {x : DataW H × List MemPlace} {fuel k : Nat}
    (he : P.underlying e = some (.struct fs)) (hf : ∀ j, j < k → ∃ g, fs[j]? = some g ∧ g.offset = j ∧ P.underlying g.type = some (.int .i64) ∧ P.cellsOf g.type = 1)
    (h : DataW.trod enc P w base (fun _ => true) held fuel e cs = some x) :
    ∃ y : Nat → Int, ∀ j, j < k → cs[j]? = some (.int .i64 (y j)) ∧ (-9223372036854775808 ≤ y j ∧ y j ≤ 9223372036854775807) := by
  obtain ⟨ys, n, _, _, hl, hy, hi⟩ := DataW.trod_struct he h
  have each : ∀ j, ∃ z : Int, j < k → cs[j]? = some (.int .i64 z) ∧ (-9223372036854775808 ≤ z ∧ z ≤ 9223372036854775807) := by
    intro j
    by_cases hj : j < k
    · obtain ⟨g, h1, h2, h3, h4⟩ := hf j hj
      have hsz := (Array.getElem?_eq_some_iff.1 h1).1
      have r := hi j g h1
      rw [h2, h4, List.getElem?_eq_getElem (by omega)] at r
      obtain ⟨z, hz, _, wz⟩ := DataW.trod_int h3 r
      refine ⟨z, fun _ => ⟨?_, bounds_i64 wz⟩⟩
      have : (List.take 1 (List.drop j cs))[0]? = some (Value.int .i64 z) := by rw [hz]; rfl
      rw [List.getElem?_take_of_lt (by omega), List.getElem?_drop, Nat.add_zero] at this
      exact this
    · exact ⟨0, fun q => absurd q hj⟩
  exact ⟨fun j => Classical.choose (each j), fun j hj => Classical.choose_spec (each j) hj⟩
theorem open_nacts {H : Type} {enc : TypeId × Value → H} {P : Program} {w : World} {base : Nat} {held : Bool} {t e : TypeId} {fs : Array Field} {v : Value} {b0 k : Nat} {d : DataW H} {p : List MemPlace}
    (ht : P.underlying t = some (.slice e)) (he : P.underlying e = some (.struct fs)) (hf : ∀ j, j < k → ∃ g, fs[j]? = some g ∧ g.offset = j ∧ P.underlying g.type = some (.int .i64) ∧ P.cellsOf g.type = 1) (ce : P.cellsOf e = k) (hk : 0 < k)
    (hv : Value.okWide P w .any b0 t v) (h : DataW.Trod enc P w base (fun _ => true) held t v d p) : SlN k w v := by
  obtain ⟨a0, len, cap, rfl⟩ := okWide_slice ht hv
  obtain ⟨fuel, hq⟩ := h
  rcases DataW.trod_slice ht hq with ⟨hcs, _⟩ | ⟨a, len', cap', elems, rest, n, _, hcs, _, hb, hl, hm, hlen, hel, _, _⟩
  · simp [Value.cells] at hcs
    obtain ⟨rfl, rfl, rfl⟩ := hcs
    exact .inl ⟨none, 0, rfl, fun _ => rfl, Nat.zero_le _⟩
  · simp [Value.cells] at hcs
    obtain ⟨rfl, rfl, rfl⟩ := hcs
    by_cases hz : len = 0
    · subst hz
      exact .inl ⟨some a, cap, rfl, (fun e => by cases e), hm⟩
    · have each : ∀ i, ∃ y : Nat → Int, i < len → ∀ j, j < k → w.cell? ((a.add (i * k)).add j) = some (.int .i64 (y j)) ∧ (-9223372036854775808 ≤ y j ∧ y j ≤ 9223372036854775807) := by
        intro i
        by_cases hi : i < len
        · have q := hel i hi
          rw [ce, List.getElem?_eq_getElem (by omega), Option.bind_eq_some_iff] at q
          obtain ⟨cs', hc', hy⟩ := q
          obtain ⟨_, _, hc2⟩ := World.cells?_some hc'
          obtain ⟨y, hy1⟩ := open_nact he hf hy
          exact ⟨y, fun _ j hj => ⟨(hc2 j hj).trans (hy1 j hj).1, (hy1 j hj).2⟩⟩
        · exact ⟨fun _ => 0, fun q => absurd q hi⟩
      obtain ⟨b, off, spot⟩ := a
      have hspot : spot = none := by
        obtain ⟨y, e0⟩ := each 0
        simpa [Addr.add] using World.cell?_spot (e0 (by omega) 0 hk).1
      subst hspot
      have hcl : ∀ i j, ((⟨b, off, none⟩ : Addr).add (i * k)).add j = ⟨b, off + i * k + j, none⟩ := fun i j => by rw [add_plain, add_plain]
      refine .inr ⟨b, off, len, cap, fun i => Classical.choose (each i), rfl, by omega, hl, hm, ?_, fun i hi j hj => ?_⟩
      · obtain ⟨y, e0⟩ := each 0
        have e1 := (e0 (by omega) 0 hk).1
        rw [hcl] at e1
        exact block_lt_of_cell e1
      · have := Classical.choose_spec (each i) hi j hj
        rw [hcl] at this
        exact this

end Go.Proofs.Ytpkhfdcokcchdaa

/-
  Openers: slices of arrays of ints.
-/
namespace Go.Proofs.Ytpkhfdcokcchdaa
open Go.ChangeShapes Go.WideShapes Go.ChangeAt Go.RowKit
set_option linter.unusedVariables false

theorem open_nrow {H : Type} {enc : TypeId × Value → H} {P : Program} {w : World} {base : Nat} {held : Bool} {e i : TypeId} {cs : List Value} {x : DataW H × List MemPlace} {fuel k : Nat}
    (he : P.underlying e = some (.array k i)) (hi : P.underlying i = some (.int .i64)) (hc : P.cellsOf i = 1)
    (h : DataW.trod enc P w base (fun _ => true) held fuel e cs = some x) (hl0 : cs.length = k) :
    ∃ y : Nat → Int, ∀ j, j < k → cs[j]? = some (.int .i64 (y j)) ∧ (-9223372036854775808 ≤ y j ∧ y j ≤ 9223372036854775807) := by
  obtain ⟨ys, m, _, _, hl, hy, hr⟩ := DataW.trod_array he h
  have each : ∀ j, ∃ z : Int, j < k → cs[j]? = some (.int .i64 z) ∧ (-9223372036854775808 ≤ z ∧ z ≤ 9223372036854775807) := by
    intro j
    by_cases hj : j < k
    · have r := hr j (by omega)
      rw [hc, Nat.mul_one, List.getElem?_eq_getElem (by omega)] at r
      obtain ⟨z, hz, _, wz⟩ := DataW.trod_int hi r
      refine ⟨z, fun _ => ⟨?_, bounds_i64 wz⟩⟩
      have : (List.take 1 (List.drop j cs))[0]? = some (Value.int .i64 z) := by
        have e1 : List.take 1 (List.drop j cs) = [Value.int .i64 z] := hz
        rw [e1]; rfl
      rw [List.getElem?_take_of_lt (by omega), List.getElem?_drop, Nat.add_zero] at this
      exact this
    · exact ⟨0, fun q => absurd q hj⟩
  exact ⟨fun j => Classical.choose (each j), fun j hj => Classical.choose_spec (each j) hj⟩
theorem open_nrows {H : Type} {enc : TypeId × Value → H} {P : Program} {w : World} {base : Nat} {held : Bool} {t e i : TypeId} {v : Value} {b0 k : Nat} {d : DataW H} {p : List MemPlace}
    (ht : P.underlying t = some (.slice e)) (he : P.underlying e = some (.array k i)) (hii : P.underlying i = some (.int .i64)) (hc1 : P.cellsOf i = 1) (ce : P.cellsOf e = k) (hk : 0 < k)
    (hv : Value.okWide P w .any b0 t v) (h : DataW.Trod enc P w base (fun _ => true) held t v d p) : SlN k w v := by
  obtain ⟨a0, len, cap, rfl⟩ := okWide_slice ht hv
  obtain ⟨fuel, hq⟩ := h
  rcases DataW.trod_slice ht hq with ⟨hcs, _⟩ | ⟨a, len', cap', elems, rest, n, _, hcs, _, hb, hl, hm, hlen, hel, _, _⟩
  · simp [Value.cells] at hcs
    obtain ⟨rfl, rfl, rfl⟩ := hcs
    exact .inl ⟨none, 0, rfl, fun _ => rfl, Nat.zero_le _⟩
  · simp [Value.cells] at hcs
    obtain ⟨rfl, rfl, rfl⟩ := hcs
    by_cases hz : len = 0
    · subst hz
      exact .inl ⟨some a, cap, rfl, (fun e => by cases e), hm⟩
    · have each : ∀ i, ∃ y : Nat → Int, i < len → ∀ j, j < k → w.cell? ((a.add (i * k)).add j) = some (.int .i64 (y j)) ∧ (-9223372036854775808 ≤ y j ∧ y j ≤ 9223372036854775807) := by
        intro i
        by_cases hi : i < len
        · have q := hel i hi
          rw [ce, List.getElem?_eq_getElem (by omega), Option.bind_eq_some_iff] at q
          obtain ⟨cs', hc', hy⟩ := q
          obtain ⟨_, hlc, hc2⟩ := World.cells?_some hc'
          obtain ⟨y, hy1⟩ := open_nrow he hii hc1 hy (by simpa using hlc)
          exact ⟨y, fun _ j hj => ⟨(hc2 j hj).trans (hy1 j hj).1, (hy1 j hj).2⟩⟩
        · exact ⟨fun _ => 0, fun q => absurd q hi⟩
      obtain ⟨b, off, spot⟩ := a
      have hspot : spot = none := by
        obtain ⟨y, e0⟩ := each 0
        simpa [Addr.add] using World.cell?_spot (e0 (by omega) 0 hk).1
      subst hspot
      have hcl : ∀ i j, ((⟨b, off, none⟩ : Addr).add (i * k)).add j = ⟨b, off + i * k + j, none⟩ := fun i j => by rw [add_plain, add_plain]
      refine .inr ⟨b, off, len, cap, fun i => Classical.choose (each i), rfl, by omega, hl, hm, ?_, fun i hi j hj => ?_⟩
      · obtain ⟨y, e0⟩ := each 0
        have e1 := (e0 (by omega) 0 hk).1
        rw [hcl] at e1
        exact block_lt_of_cell e1
      · have := Classical.choose_spec (each i) hi j hj
        rw [hcl] at this
        exact this

end Go.Proofs.Ytpkhfdcokcchdaa

/-
  Layer 15: wakes; tame and list of any slice.
-/
namespace Go.Proofs.Ytpkhfdcokcchdaa
open Go.RowKit

theorem wk1 : joinP ([] ++ [((-1 : Int), (3 : Int))]) = [(-1, 3)] := rfl
theorem wk2 : joinP (fillP [(-1, 3)] 1 1 7) = [(-1, 1), (7, 1), (-1, 1)] := by decide
theorem wk3 : heldZ (firstP (restP [(-1, 3)] ((1 : Nat) : Int)) ((1 : Nat) : Int)) = 0 := by decide
theorem wk4 : Right15 [(-1, 1), (7, 1), (-1, 1)] := .of (by simp) (by simp) rfl (by simp [sumZ])
theorem wk5 : Right15 [((-1 : Int), (3 : Int))] := (one_right _).2 (by simp)
theorem wk0 : Right15 [] := .of (by simp) (by simp) rfl (by simp [sumZ])
theorem eappend_wk (b : Nat) (cap : Nat) (w : World) (hc : cap ≤ maxLen) :
    Calls Try.prog 53 #[.slice (some ⟨b, 0, none⟩) 0 cap, .agg #[.int .i64 (-1), .int .i64 3]] w fun e w' => ∃ ao cap', e = .returned (.tuple #[.slice ao 1 cap', .int .i64 0]) ∧ Sl2 w' (.slice ao 1 cap') [(-1, 3)] ∧ Gr [] w w' := by
  refine (eappend_any [] 0 (some ⟨b, 0, none⟩) cap (-1) 3 w ⟨_, _, rfl, Rd2.nil _ _, Nat.zero_le _, hc, fun q => by cases q⟩).mono ?_
  rintro e w' ⟨g, ⟨h, _⟩ | ⟨_, h, _⟩ | ⟨_, _, _, ao, cap', rfl, hs⟩⟩
  · exact absurd wk0 h
  · exact absurd ⟨wk5, by rw [wk1]; exact wk5⟩ h
  · exact ⟨ao, cap', rfl, hs, g⟩
theorem efill_wk (ao : Option Addr) (cap : Nat) (w : World) (h : Sl2 w (.slice ao 1 cap) [(-1, 3)]) :
    Calls Try.prog 55 #[.slice ao 1 cap, .int .i64 1, .agg #[.int .i64 7, .int .i64 1]] w fun e w' => ∃ ao cap', e = .returned (.tuple #[.slice ao 3 cap', .int .i64 0]) ∧ Sl2 w' (.slice ao 3 cap') [(-1, 1), (7, 1), (-1, 1)] ∧ Gr [] w w' := by
  refine (efill_ok [(-1, 3)] 1 1 1 7 ao cap w h wk5 (by omega) (by omega) (by omega) (by simp [sumZ])).mono ?_
  rintro e w' ⟨g, H⟩
  rw [wk3, wk2] at H
  rcases H with ⟨h, _⟩ | ⟨_, h, _⟩ | ⟨_, _, ao, cap', rfl, hs⟩
  · omega
  · exact absurd wk4 h
  · exact ⟨ao, cap', rfl, hs, g⟩
theorem emap_wk (ao : Option Addr) (cap : Nat) (w : World) (h : Rd2 w ao [(-1, 1), (7, 1), (-1, 1)]) :
    Calls Try.prog 48 #[.slice ao 3 cap, .int .i64 1] w fun e w' => e = .returned (.tuple #[.int .i64 7, .bool true]) ∧ Gr [] w w' := by
  refine (emap_any [(-1, 1), (7, 1), (-1, 1)] 3 1 ao cap w h rfl wk4.small (by omega)).mono ?_
  rintro e w' ⟨g, ⟨x, hx, rfl⟩ | ⟨hx, _⟩⟩
  · have : x = 7 := by
      have h2 : (blk [(-1, 1), (7, 1), (-1, 1)])[1]? = some 7 := by decide
      rw [h2] at hx
      injection hx with hx
      exact hx.symm
    subst this
    exact ⟨rfl, g⟩
  · have h2 : (blk [(-1, 1), (7, 1), (-1, 1)])[1]? = some 7 := by decide
    rw [h2] at hx
    cases hx
set_option maxHeartbeats 2000000 in
theorem ewakes15 (w : World) : Calls Try.prog 52 #[] w fun e w' => e = .returned (.bool true) ∧ Gr [] w w' := by
  go_enter Try.func52, Try.ntmps52
  have HG0 := Lib.hid ((Gr.refl [] w).alloc (Obj.cells #[] 35))
  go_wp2_with fail
  refine (eappend_wk _ 0 _ (Nat.zero_le _)).mono ?_
  rintro e w1 ⟨a1, c1, rfl, s1, g1⟩
  have H1 := Lib.hid (And.intro s1 (HG0.out.next0 g1))
  clear s1 g1
  go_wp2_with fail
  refine (efill_wk a1 c1 w1 H1.out.1).mono ?_
  rintro e w2 ⟨a2, c2, rfl, s2, g2⟩
  have H2 := Lib.hid (And.intro (H1.out.1.gr0 g2) (And.intro s2 (H1.out.2.next0 g2)))
  clear s2 g2
  go_wp2_with fail
  refine (emap_wk a2 c2 w2 (sl2_parts H2.out.2.1).2.1).mono ?_
  rintro e w3 ⟨rfl, g3⟩
  have H3 := Lib.hid (And.intro (H2.out.1.gr0 g3) (And.intro (H2.out.2.1.gr0 g3) (H2.out.2.2.next0 g3)))
  clear g3
  go_wp2_with fail
  refine (eblocks_any _ 3 3 a2 c2 w3 (sl2_parts H3.out.2.1).2.1 rfl wk4.small rfl).mono ?_
  rintro e w4 ⟨rfl, g4⟩
  have H4 := Lib.hid (And.intro (H3.out.1.gr0 g4) (And.intro (H3.out.2.1.gr0 g4) (H3.out.2.2.next0 g4)))
  clear g4
  go_wp2_with fail
  refine (eheld_any _ 3 1 a2 c2 w4 (sl2_parts H4.out.2.1).2.1 rfl wk4.small rfl).mono ?_
  rintro e w5 ⟨rfl, g5⟩
  have H5 := Lib.hid (And.intro (H4.out.1.gr0 g5) (H4.out.2.2.next0 g5))
  clear g5
  go_wp2_with fail
  refine (eheld_any _ 1 0 a1 c1 w5 (sl2_parts H5.out.1).2.1 rfl wk5.small rfl).mono ?_
  rintro e w6 ⟨rfl, g6⟩
  have H6 := Lib.hid (H5.out.2.next0 g6)
  clear g6
  go_wp2_with fail
  go_ret
  exact ⟨rfl, H6.out⟩

theorem nil_of_none {w : World} {N cap : Nat} {l : List (Int × Int)} (h : Sl2 w (.slice none N cap) l) : l = [] ∧ N = 0 ∧ cap = 0 := by
  obtain ⟨h1, h2, _, _, h5⟩ := sl2_parts h
  have : l = [] := by
    match l with
    | [] => rfl
    | e :: r =>
      obtain ⟨b, o, hb, _⟩ := h2 0 e rfl
      cases hb
  subst this
  exact ⟨rfl, h1, h5 rfl⟩
theorem etame_zero (ao : Option Addr) (cap : Nat) (w : World) (_hO : ao = none → cap = 0) (_hmax : cap ≤ maxLen) :
    Calls Try.prog 40 #[.slice ao 0 cap] w fun e w' => ∃ v, e = .returned v ∧ w'.ownsRow w.heap.size 44 2 v (tamed []).length (cells2 (tamed [])) ∧ Gr [] w w' := by
  have hmn := minZ Try.prog 0 20 0 (by omega)
  have HRN := Lib.hid (rruns_any [] 0 none 0 w (fun i x h => by simp at h) rfl (fun x hx => by simp at hx) (by omega))
  unfold maxLen at _hmax
  go_enter Try.func40, Try.ntmps40
  go_wp2_with fail
  clear hmn
  go_loopw [3, 15] (fun v i wr => v = .slice none 0 0 ∧ i = .int .i64 0 ∧ wr = w) (fun _ _ _ => 0)
  case atStart => exact ⟨rfl, rfl, rfl⟩
  case round =>
    obtain ⟨rfl, rfl, rfl⟩ := hrel
    go_wp2_with fail
    refine HRN.out.mono ?_
    rintro e w2 ⟨v, rfl, ho, g⟩
    have HF := Lib.hid (And.intro ho g)
    clear ho g
    go_wp2_with fail
    go_ret
    exact ⟨_, rfl, HF.out.1, HF.out.2⟩
theorem etame_any {v : Value} {w : World} (h : SlN 2 w v) :
    ∃ l : List (Int × Int), Calls Try.prog 40 #[v] w fun e w' => ∃ v, e = .returned v ∧ w'.ownsRow w.heap.size 44 2 v (tamed l).length (cells2 (tamed l)) ∧ Gr [] w w' := by
  rcases h with ⟨ao, cap, rfl, hn, hm⟩ | ⟨b, off, n, cap, f, rfl, h0, hc, hm, hb, hx⟩
  · exact ⟨[], etame_zero ao cap w hn hm⟩
  · refine ⟨(List.range n).map fun i => (f i 0, f i 1), etame_some _ n b off cap w (fun i e hi => ?_) (by simp) hc⟩
    have hin : i < n := by
      have := (List.getElem?_eq_some_iff.1 hi).1
      simpa using this
    rw [List.getElem?_map, List.getElem?_range hin] at hi
    simp at hi
    subst hi
    exact ⟨b, off, rfl, hb, (hx i hin 0 (by omega)).1, (hx i hin 1 (by omega)).1⟩
theorem elist_any (l : List (Int × Int)) (v : Value) (base : Nat) (t : TypeId) (w : World) (h : w.ownsRow base t 2 v l.length (cells2 l)) (hl : l.length ≤ 70) :
    Calls Try.prog 41 #[v] w fun e w' => ∃ v1 v2, e = .returned (.tuple #[v1, v2]) ∧ w'.ownsRow w.heap.size 35 2 v1 l.length (cells2 l) ∧ Gr [] w w' := by
  have hs := own_sl2 h
  rcases h.2 with ⟨q1, q2⟩ | ⟨g, cap', cur, q, hb, hg, h1, h2, h3, h4⟩
  · subst q1
    obtain ⟨rfl, _, _⟩ := nil_of_none hs
    refine (elist_none w).mono ?_
    rintro e w' ⟨rfl, g⟩
    exact ⟨_, _, rfl, World.ownsRow_nil _ _ _ _, g⟩
  · subst q
    obtain ⟨_, hr, hc, hm, _⟩ := sl2_parts hs
    refine (elist_some l l.length g 0 cap' w hr rfl hc hm).mono ?_
    rintro e w' ⟨v1, rfl, ho, gg⟩
    rw [Nat.min_eq_left hl, List.take_length] at ho
    exact ⟨_, _, rfl, ho, gg⟩

end Go.Proofs.Ytpkhfdcokcchdaa

/-
  Layer 15: ExtBack.
-/
namespace Go.Proofs.Ytpkhfdcokcchdaa
open Go.RowKit

theorem emap_get (l : List (Int × Int)) (L i : Nat) (ao : Option Addr) (cap : Nat) (w : World) (x : Int) (h : Rd2 w ao l) (hL : L = l.length) (hs : smallP l) (hi : i < 9223372036854775808) (hx : (blk l)[i]? = some x) :
    Calls Try.prog 48 #[.slice ao L cap, .int .i64 i] w fun e w' => e = .returned (.tuple #[.int .i64 x, .bool true]) ∧ Gr [] w w' := by
  refine (emap_any l L i ao cap w h hL hs hi).mono ?_
  rintro e w' ⟨g, ⟨y, hy, rfl⟩ | ⟨hy, _⟩⟩
  · rw [hx] at hy
    injection hy with hy
    subst hy
    exact ⟨rfl, g⟩
  · rw [hx] at hy; cases hy
theorem eappend_far (T : List (Int × Int)) (A : Int) (L : Nat) (ao : Option Addr) (cap : Nat) (w : World) (h : Sl2 w (.slice ao L cap) T) (hT : Right15 T) (hT2 : ∀ e ∈ T, -1 ≤ e.1 ∧ e.1 ≤ 199 ∧ 1 ≤ e.2 ∧ e.2 ≤ 180) (hT3 : sumZ T ≤ 180) (hT4 : T.length ≤ 20) (hA : 1000 ≤ A) (hA2 : A ≤ 2000) :
    Calls Try.prog 53 #[.slice ao L cap, .agg #[.int .i64 A, .int .i64 2]] w fun e w' => ∃ ao' cap', e = .returned (.tuple #[.slice ao' (T ++ [(A, 2)]).length cap', .int .i64 0]) ∧ Sl2 w' (.slice ao' (T ++ [(A, 2)]).length cap') (T ++ [(A, 2)]) ∧ Right15 (T ++ [(A, 2)]) ∧ Gr [] w w' := by
  have hj := app_tamed hT2 hT.apart hA
  have hr1 : Right15 [(A, (2 : Int))] := (one_right _).2 (by simp only; omega)
  have hr2 : Right15 (T ++ [(A, 2)]) := by
    refine .of (by simp; omega) (fun e he => ?_) (by rw [← hj]; exact apart_join _) (by rw [sumZ_append]; simp [sumZ]; omega)
    rcases List.mem_append.1 he with q | q
    · have := hT2 e q; omega
    · simp at q; subst q; simp only; omega
  refine (eappend_any T L ao cap A 2 w h).mono ?_
  rw [hj]
  rintro e w' ⟨g, ⟨h, _⟩ | ⟨_, h, _⟩ | ⟨_, _, _, ao', cap', rfl, hs⟩⟩
  · exact absurd hT h
  · exact absurd ⟨hr1, hr2⟩ h
  · exact ⟨ao', cap', rfl, hs, hr2, g⟩

set_option maxHeartbeats 16000000 in
set_option maxRecDepth 100000 in
theorem eback_any (v : Value) (x y : Int) (w : World) (h : SlN 2 w v) (hx0 : 0 ≤ x) (hx1 : x ≤ 65535) (hy0 : 0 ≤ y) (hy1 : y ≤ 255) :
    Calls Try.prog 12 #[v, .int .u16 x, .int .u8 y] w fun e w' => e = .returned (.bool true) ∧ Gr [] w w' := by
  obtain ⟨l0, HTA⟩ := etame_any h
  obtain ⟨T, hT⟩ : ∃ T, T = tamed l0 := ⟨_, rfl⟩
  have HT := Lib.hid (show Right15 T ∧ (∀ e ∈ T, -1 ≤ e.1 ∧ e.1 ≤ 199 ∧ 1 ≤ e.2 ∧ e.2 ≤ 180) ∧ sumZ T ≤ 180 ∧ T.length ≤ 20 by rw [hT]; exact tamed_ok l0)
  rw [← hT] at HTA
  have HTA := Lib.hid HTA
  obtain ⟨S, hS⟩ : ∃ S : Nat, (S : Int) = sumZ T := ⟨(sumZ T).toNat, by have := (sumZ_mem (l := T) (fun e he => (HT.out.2.1 e he).2.2.1)).1; omega⟩
  have HS := Lib.hid hS
  have HBL := Lib.hid (show (blk T).length = S by have := blk_len (l := T) (fun e he => (HT.out.2.1 e he).2.2.1); omega)
  have hS180 : S ≤ 180 := by have := HT.out.2.2.1; omega
  obtain ⟨K, hK⟩ : ∃ K : Nat, x % ((S : Int) + 1) = (K : Int) := ⟨(x % ((S : Int) + 1)).toNat, by have := Int.emod_nonneg x (show ((S : Int) + 1) ≠ 0 by omega); omega⟩
  have hKS : K ≤ S := by have := Int.emod_lt_of_pos x (show (0 : Int) < (S : Int) + 1 by omega); omega
  have hSne : ¬ ((S : Int) + 1 = 0) := by omega
  have hwx : IntKind.i64.wrap x = x := IntWalk.i64_in _ (by omega)
  have hwy : IntKind.i64.wrap y = y := IntWalk.i64_in _ (by omega)
  have hwK : IntKind.i64.wrap (K : Int) = (K : Int) := IntWalk.i64_in _ (by omega)
  have hlen20 : T.length ≤ 20 := HT.out.2.2.2
  clear h hT hS
  go_enter Try.func12, Try.ntmps12
  go_wp2_with fail
  refine HTA.out.mono ?_
  rintro e w1 ⟨v1, rfl, o1, g1⟩
  have HL1 := Lib.hid (elist_any T v1 _ _ w1 o1 (by omega))
  have H1 := Lib.hid g1
  clear o1 g1 HTA
  go_wp2_with fail
  refine HL1.out.mono ?_
  rintro e w2 ⟨vL, vM, rfl, o2, g2⟩
  obtain ⟨aL, cL, hvL, -, -, -⟩ := own_parts o2
  subst hvL
  have H2 := Lib.hid (And.intro (own_sl2 o2) (H1.out.next0 g2))
  clear o2 g2 HL1 H1
  go_wp2_with fail
  refine (eblocks_any T T.length S aL cL w2 (sl2_parts H2.out.1).2.1 rfl HT.out.1.small HS.out).mono ?_
  rintro e w3 ⟨rfl, g3⟩
  have H3 := Lib.hid (And.intro (H2.out.1.gr0 g3) (H2.out.2.next0 g3))
  clear g3 H2
  go_wp2_with fail
  rw [hK]
  refine (ecut_yes T T.length K aL cL w3 H3.out.1 HT.out.1 (by have := HS.out; omega)).mono ?_
  rintro e w4 ⟨vF, vR, rfl, sF, sR, g4⟩
  have HFS := Lib.hid (sum_first HT.out.1 (k := K) (by have := HS.out; omega))
  have HSP := Lib.hid (split_ok (l := T) (n := (K : Int)) (B := 65536) (by omega) HT.out.1.all HT.out.1.apart)
  have HFG := Lib.hid (fun i (hi : i < K) => first_get HT.out.1 hi)
  have HSR := Lib.hid (sum_solid (restP T K))
  obtain ⟨F, hF⟩ : ∃ F, F = firstP T K := ⟨_, rfl⟩
  obtain ⟨R, hR⟩ : ∃ R, R = (restP T K).filter solidB := ⟨_, rfl⟩
  have HRA := Lib.hid (show R.length ≤ 20 ∧ ∀ e ∈ R, 1 ≤ e.2 ∧ e.2 ≤ 65536 by
    rw [hR]
    refine ⟨?_, fun e he => ?_⟩
    · have := List.length_filter_le solidB (restP T K)
      have := HSP.out.2.2.2.2.2.1
      omega
    · have := HSP.out.2.1 e (List.mem_filter.1 he).1; omega)
  rw [← hF] at sF HFS HFG HSP
  rw [← hR] at sR HSR
  obtain ⟨aF, cF, rfl, rF, -, -, -⟩ := id sF
  obtain ⟨aR, cR, rfl, rR, -, -, -⟩ := id sR
  have H4 := Lib.hid (And.intro (H3.out.1.gr0 g4) (And.intro rF (And.intro rR (H3.out.2.next0 g4))))
  clear g4 H3 sF sR rF rR hF hR
  obtain ⟨hf, hhf⟩ : ∃ z, z = heldZ F := ⟨_, rfl⟩
  obtain ⟨ht, hht⟩ : ∃ z, z = heldZ T := ⟨_, rfl⟩
  have HHF := Lib.hid hhf
  have HHT := Lib.hid hht
  have HSUM := Lib.hid (show hf + sumZ R = ht by rw [hhf, hht, HSR.out]; exact HSP.out.2.2.2.2.2.2.2)
  have hwt : IntKind.i64.wrap ht = ht := IntWalk.i64_in _ (by
    have := (small_sum (l := T) (fun e he => ⟨(HT.out.1.all e he).2.2.1, (HT.out.1.all e he).2.2.2⟩) T.length).2.2
    rw [List.take_length] at this
    omega)
  clear hhf hht
  go_wp2_with fail
  refine (ewakes15 w4).mono ?_
  rintro e w5 ⟨rfl, g5⟩
  have H5 := Lib.hid (And.intro (H4.out.1.gr0 g5) (And.intro (H4.out.2.1.gr0 g5) (And.intro (H4.out.2.2.1.gr0 g5) (H4.out.2.2.2.next0 g5))))
  clear g5 H4
  go_wp2_with fail
  refine (eblocks_any F F.length K aF cF w5 H5.out.2.1 rfl HFS.out.2.small HFS.out.1.symm).mono ?_
  rintro e w6 ⟨rfl, g6⟩
  have H6 := Lib.hid (And.intro (H5.out.1.gr0 g6) (And.intro (H5.out.2.1.gr0 g6) (And.intro (H5.out.2.2.1.gr0 g6) (H5.out.2.2.2.next0 g6))))
  clear g6 H5
  go_wp2_with fail
  refine (eright_yes F F.length aF cF w6 H6.out.2.1 rfl HFS.out.2).mono ?_
  rintro e w7 ⟨rfl, g7⟩
  have H7 := Lib.hid (And.intro (H6.out.1.gr0 g7) (And.intro (H6.out.2.1.gr0 g7) (And.intro (H6.out.2.2.1.gr0 g7) (H6.out.2.2.2.next0 g7))))
  clear g7 H6
  go_wp2_with fail
  -- loop 1: what is free
  go_loopw [13, 73] (fun s i wr => ∃ k : Nat, k ≤ R.length ∧ i = .int .i64 k ∧ s = .int .i64 (sumZ (R.take k)) ∧ Gr [] w7 wr) (fun _ i _ => R.length - (intOf i).toNat)
  case atStart => exact ⟨0, by omega, rfl, rfl, Gr.refl _ _⟩
  case round =>
    obtain ⟨k, hk, rfl, rfl, G⟩ := hrel
    by_cases hkR : k < R.length
    · have hkR2 : (k : Int) < (R.length : Int) := by omega
      obtain ⟨⟨e1, e2⟩, he⟩ : ∃ e, R[k]? = some e := ⟨_, List.getElem?_eq_getElem hkR⟩
      obtain ⟨b, o, hao, hb, x0, x1⟩ := H7.out.2.2.1 k _ he
      subst hao
      have y0 : wr.cell? ⟨b, o + k * 2, none⟩ = some (.int .i64 e1) := (G.cell0 hb).trans x0
      have y1 : wr.cell? ⟨b, o + k * 2 + 1, none⟩ = some (.int .i64 e2) := (G.cell0 hb).trans x1
      have HGA := Lib.hid (G.alloc (Obj.cells #[.int .i64 e1, .int .i64 e2] 35))
      have z0 := (Holds.new wr #[.int .i64 e1, .int .i64 e2] 35).cell 0
      have z1 := (Holds.new wr #[.int .i64 e1, .int .i64 e2] 35).cell 1
      have hm := HRA.out.2 _ (List.mem_of_getElem? he)
      have HST := Lib.hid (sumZ_take he)
      have hsb := small_sum HRA.out.2 k
      have hR20 := HRA.out.1
      simp only at hm
      obtain ⟨s1, hs1⟩ : ∃ s1, s1 = sumZ (R.take k) := ⟨_, rfl⟩
      rw [← hs1] at hsb ⊢
      have hw1 : IntKind.i64.wrap (s1 + e2) = s1 + e2 := IntWalk.i64_in _ (by omega)
      have HS1 := Lib.hid hs1
      clear x0 x1 he G hsb hm hs1
      go_wp2_with fail
      go_roundw
      case rel => exact ⟨k + 1, by omega, by go_num, by rw [HST.out, HS1.out], HGA.out⟩
      case measure => simp [intOf]; omega
    · obtain rfl : k = R.length := by omega
      rw [List.take_length]
      have H8 := Lib.hid (And.intro (H7.out.1.gr0 G) (And.intro (H7.out.2.1.gr0 G) (H7.out.2.2.2.next0 G)))
      clear G H7
      obtain ⟨sr, hsr⟩ : ∃ sr, sr = sumZ R := ⟨_, rfl⟩
      rw [← hsr] at HSUM ⊢
      clear hsr
      have hsum := HSUM.out
      have hw2 : IntKind.i64.wrap (hf + sr) = ht := by rw [hsum]; exact hwt
      have hw3 : hf + sr = ht := hsum
      clear hsum
      go_wp2_with fail
      refine (eheld_any F F.length hf aF cF _ H8.out.2.1 rfl HFS.out.2.small HHF.out).mono ?_
      rintro e w9 ⟨rfl, g9⟩
      have H9 := Lib.hid (And.intro (H8.out.1.gr0 g9) (And.intro (H8.out.2.1.gr0 g9) (H8.out.2.2.next0 g9)))
      clear g9 H8
      go_wp2_with fail
      refine (eheld_any T T.length ht aL cL _ (sl2_parts H9.out.1).2.1 rfl HT.out.1.small HHT.out).mono ?_
      rintro e w10 ⟨rfl, g10⟩
      have H10 := Lib.hid (And.intro (H9.out.1.gr0 g10) (And.intro (H9.out.2.1.gr0 g10) (H9.out.2.2.next0 g10)))
      clear g10 H9
      go_wp2_with fail
      -- loop 2: where the first ones are
      go_loopw [90] (fun i wr => ∃ k : Nat, k ≤ K ∧ i = .int .i64 k ∧ Gr [] w10 wr) (fun i _ => K - (intOf i).toNat)
      case atStart => exact ⟨0, by omega, rfl, Gr.refl _ _⟩
      case round =>
        obtain ⟨k, hk, rfl, G⟩ := hrel
        by_cases hkK : k < K
        · have hkK2 : (k : Int) < (K : Int) := by omega
          obtain ⟨z, hz⟩ : ∃ z, (blk T)[k]? = some z := ⟨_, List.getElem?_eq_getElem (by have := HBL.out; omega)⟩
          have HZ := Lib.hid hz
          have HG := Lib.hid G
          have HZF := Lib.hid ((HFG.out k hkK).trans hz)
          clear hz G
          go_wp2_with fail
          refine (emap_get F F.length k aF cF wr z (H10.out.2.1.gr0 HG.out) rfl HFS.out.2.small (by omega) HZF.out).mono ?_
          rintro e wa ⟨rfl, ga⟩
          have HG2 := Lib.hid (HG.out.next0 ga)
          clear ga HG
          go_wp2_with fail
          refine (emap_get T T.length k aL cL wa z ((sl2_parts H10.out.1).2.1.gr0 HG2.out) rfl HT.out.1.small (by omega) HZ.out).mono ?_
          rintro e wb ⟨rfl, gb⟩
          have HG3 := Lib.hid (HG2.out.next0 gb)
          clear gb HG2
          go_wp2_with fail
          go_roundw
          case rel => exact ⟨k + 1, by omega, by go_num, HG3.out⟩
          case measure => simp [intOf]; omega
        · obtain rfl : k = K := by omega
          have H11 := Lib.hid (And.intro (H10.out.1.gr0 G) (H10.out.2.2.next0 G))
          clear G H10
          obtain ⟨A1, hA1⟩ : ∃ A, 1000 + y = A := ⟨_, rfl⟩
          obtain ⟨A2, hA2⟩ : ∃ A, 2000 + y = A := ⟨_, rfl⟩
          have hwA1 : IntKind.i64.wrap A1 = A1 := IntWalk.i64_in _ (by omega)
          have hwA2 : IntKind.i64.wrap A2 = A2 := IntWalk.i64_in _ (by omega)
          have hbA1 : 1000 ≤ A1 ∧ A1 ≤ 2000 := by omega
          have hbA2 : 2000 ≤ A2 ∧ A2 ≤ 3000 := by omega
          go_wp2_with fail
          refine (eappend_far T A1 T.length aL cL _ H11.out.1 HT.out.1 HT.out.2.1 HT.out.2.2.1 HT.out.2.2.2 hbA1.1 hbA1.2).mono ?_
          rintro e w12 ⟨aB, cB, rfl, sB, rB, g12⟩
          have H12 := Lib.hid (And.intro (H11.out.1.gr0 g12) (And.intro sB (H11.out.2.next0 g12)))
          have HRB := Lib.hid rB
          have HBS := Lib.hid (show sumZ (T ++ [(A1, 2)]) = (S : Int) + 2 by rw [sumZ_append]; have := HS.out; simp [sumZ]; omega)
          have HRE := Lib.hid (show (restP (T ++ [(A1, 2)]) S).filter solidB = [(A1, 2)] by
            rw [HS.out, rest_all (fun e he => (HT.out.1.all e he).2.2.1) (by simp), List.filter_cons]
            have : solidB (A1, 2) = true := by unfold solidB; simp; omega
            rw [if_pos this]; rfl)
          obtain ⟨B, hB⟩ : ∃ B, B = T ++ [(A1, 2)] := ⟨_, rfl⟩
          rw [← hB] at H12 HRB HBS HRE ⊢
          clear sB rB g12 hB H11
          go_wp2_with fail
          refine (eblocks_any T T.length S aL cL _ (sl2_parts H12.out.1).2.1 rfl HT.out.1.small HS.out).mono ?_
          rintro e w13 ⟨rfl, g13⟩
          have H13 := Lib.hid (And.intro (H12.out.1.gr0 g13) (And.intro (H12.out.2.1.gr0 g13) (H12.out.2.2.next0 g13)))
          clear g13 H12
          go_wp2_with fail
          refine (ecut_yes B B.length S aB cB w13 H13.out.2.1 HRB.out (by have := HBS.out; omega)).mono ?_
          rintro e w14 ⟨vC, vQ, rfl, sC, sQ, g14⟩
          rw [HRE.out] at sQ
          have HCS := Lib.hid (sum_first HRB.out (k := S) (by have := HBS.out; omega))
          obtain ⟨C, hC⟩ : ∃ C, C = firstP B S := ⟨_, rfl⟩
          rw [← hC] at sC HCS
          obtain ⟨aC, cC, rfl, rC, -, -, -⟩ := id sC
          obtain ⟨aQ, cQ, rfl, rQ, -, -, -⟩ := id sQ
          have H14 := Lib.hid (And.intro (H13.out.1.gr0 g14) (And.intro rC (And.intro rQ (H13.out.2.2.next0 g14))))
          clear g14 H13 sC sQ rC rQ hC
          go_wp2_with fail
          refine (eblocks_any C C.length S aC cC w14 H14.out.2.1 rfl HCS.out.2.small HCS.out.1.symm).mono ?_
          rintro e w15 ⟨rfl, g15⟩
          have H15 := Lib.hid (And.intro (H14.out.1.gr0 g15) (And.intro (H14.out.2.2.1.gr0 g15) (H14.out.2.2.2.next0 g15)))
          clear g15 H14
          go_wp2_with fail
          refine (eblocks_any T T.length S aL cL _ (sl2_parts H15.out.1).2.1 rfl HT.out.1.small HS.out).mono ?_
          rintro e w16 ⟨rfl, g16⟩
          have H16 := Lib.hid (And.intro (H15.out.1.gr0 g16) (And.intro (H15.out.2.1.gr0 g16) (H15.out.2.2.next0 g16)))
          clear g16 H15
          obtain ⟨bq, oq, haq, hbq, q0, q1⟩ := H16.out.2.1 0 _ rfl
          subst haq
          go_wp2_with fail
          refine (eblocks_any T T.length S aL cL _ (sl2_parts H16.out.1).2.1 rfl HT.out.1.small HS.out).mono ?_
          rintro e w17 ⟨rfl, g17⟩
          have H17 := Lib.hid (And.intro (H16.out.1.gr0 g17) (H16.out.2.2.next0 g17))
          clear g17 H16 q0 q1
          go_wp2_with fail
          -- loop 3: each block filled
          go_loopw [151] (fun i wr => ∃ k : Nat, k ≤ S ∧ i = .int .i64 k ∧ Gr [] w17 wr) (fun i _ => S - (intOf i).toNat)
          case atStart => exact ⟨0, by omega, rfl, Gr.refl _ _⟩
          case round =>
            obtain ⟨i, hi, rfl, G⟩ := hrel
            by_cases hiS : i < S
            · have hiS2 : (i : Int) < (S : Int) := by omega
              obtain ⟨z, hz⟩ : ∃ z, (blk T)[i]? = some z := ⟨_, List.getElem?_eq_getElem (by have := HBL.out; omega)⟩
              have HZ := Lib.hid hz
              have HG := Lib.hid (And.intro (H17.out.1.gr0 G) (H17.out.2.next0 G))
              have HG0 := Lib.hid G
              have HHA := Lib.hid (held_at HT.out.1 hz)
              have HFB := Lib.hid (fun j => fill_blk HT.out.1 i (A := A2) (by omega) j (by have := HBL.out; omega))
              clear hz G
              go_wp2_with fail
              refine (emap_get T T.length i aL cL wr z (sl2_parts HG.out.1).2.1 rfl HT.out.1.small (by omega) HZ.out).mono ?_
              rintro e wa ⟨rfl, ga⟩
              have HGA := Lib.hid (And.intro (HG.out.1.gr0 ga) (HG0.out.next0 ga))
              clear ga HG HG0
              go_wp2_with fail
              refine (efill_ok T T.length i 1 A2 aL cL wa HGA.out.1 HT.out.1 (by omega) (by omega) (by omega) (by have := HS.out; omega)).mono ?_
              rintro e wb ⟨gb, H⟩
              rw [HHA.out] at H
              by_cases hz1 : z = -1
              · subst hz1
                rcases H with ⟨h, _⟩ | ⟨_, _, rfl⟩ | ⟨_, hrc, aM, cM, rfl, sM⟩
                · simp at h
                · have HGB := Lib.hid (HGA.out.2.next0 gb)
                  clear gb
                  go_wp2_with fail
                  go_roundw
                  case rel => exact ⟨i + 1, by omega, by go_num, HGB.out⟩
                  case measure => simp [intOf]; omega
                · obtain ⟨M, hM⟩ : ∃ M, M = joinP (fillP T i 1 A2) := ⟨_, rfl⟩
                  rw [← hM] at hrc sM HFB ⊢
                  have HGB := Lib.hid (And.intro (HGA.out.1.gr0 gb) (And.intro sM (HGA.out.2.next0 gb)))
                  have HRM := Lib.hid hrc
                  clear gb hrc sM hM
                  go_wp2_with fail
                  refine (eblocks_any T T.length S aL cL _ (sl2_parts HGB.out.1).2.1 rfl HT.out.1.small HS.out).mono ?_
                  rintro e wc ⟨rfl, gc⟩
                  have HGC := Lib.hid (And.intro (HGB.out.1.gr0 gc) (And.intro (HGB.out.2.1.gr0 gc) (HGB.out.2.2.next0 gc)))
                  clear gc HGB
                  go_wp2_with fail
                  go_loopw [180] (fun q wr => ∃ j : Nat, j ≤ S ∧ q = .int .i64 j ∧ Gr [] wc wr) (fun q _ => S - (intOf q).toNat)
                  case atStart => exact ⟨0, by omega, rfl, Gr.refl _ _⟩
                  case round =>
                    obtain ⟨j, hj, rfl, G⟩ := hrel
                    by_cases hjS : j < S
                    · have hjS2 : (j : Int) < (S : Int) := by omega
                      obtain ⟨z2, hz2⟩ : ∃ z, (blk T)[j]? = some z := ⟨_, List.getElem?_eq_getElem (by have := HBL.out; omega)⟩
                      have HZ2 := Lib.hid hz2
                      have HGD := Lib.hid (And.intro (HGC.out.1.gr0 G) (And.intro (HGC.out.2.1.gr0 G) G))
                      clear hz2 G
                      have HFJ := Lib.hid (HFB.out j)
                      go_wp2_with fail
                      refine (emap_get T T.length j aL cL wr z2 (sl2_parts HGD.out.1).2.1 rfl HT.out.1.small (by omega) HZ2.out).mono ?_
                      rintro e wd ⟨rfl, gd⟩
                      have HGE := Lib.hid (And.intro (HGD.out.2.1.gr0 gd) (HGD.out.2.2.next0 gd))
                      clear gd HGD
                      go_wp2_with fail
                      by_cases hji : j = i
                      · subst hji
                        rw [if_pos rfl] at HFJ
                        refine (emap_get M M.length j aM cM wd A2 (sl2_parts HGE.out.1).2.1 rfl HRM.out.small (by omega) HFJ.out).mono ?_
                        rintro e we ⟨rfl, ge⟩
                        have HGF := Lib.hid (HGE.out.2.next0 ge)
                        clear ge HGE
                        go_wp2_with fail
                        go_roundw
                        case rel => exact ⟨j + 1, by omega, by go_num, HGF.out⟩
                        case measure => simp [intOf]; omega
                      · rw [if_neg hji, HZ2.out] at HFJ
                        refine (emap_get M M.length j aM cM wd z2 (sl2_parts HGE.out.1).2.1 rfl HRM.out.small (by omega) HFJ.out).mono ?_
                        rintro e we ⟨rfl, ge⟩
                        have HGF := Lib.hid (HGE.out.2.next0 ge)
                        have hd1 : ((j : Int) == (i : Int)) = false := by simp; omega
                        have hd2 : ¬ (j : Int) = (i : Int) := by omega
                        clear ge HGE
                        go_wp2_with fail
                        go_roundw
                        case rel => exact ⟨j + 1, by omega, by go_num, HGF.out⟩
                        case measure => simp [intOf]; omega
                    · obtain rfl : j = S := by omega
                      have HGZ := Lib.hid (HGC.out.2.2.next0 G)
                      clear G
                      go_wp2_with fail
                      go_roundw
                      case rel => exact ⟨i + 1, by omega, by go_num, HGZ.out⟩
                      case measure => simp [intOf]; omega
              · rcases H with ⟨_, rfl⟩ | ⟨h, _, _⟩ | ⟨h, _⟩
                · have HGB := Lib.hid (HGA.out.2.next0 gb)
                  have hd1 : (z == -1) = false := by simp [hz1]
                  clear gb
                  go_wp2_with fail
                  go_roundw
                  case rel => exact ⟨i + 1, by omega, by go_num, HGB.out⟩
                  case measure => simp [intOf]; omega
                · rw [if_neg hz1] at h; omega
                · rw [if_neg hz1] at h; omega
            · obtain rfl : i = S := by omega
              have HGZ := Lib.hid (H17.out.2.next0 G)
              clear G
              go_wp2_with fail
              go_ret
              exact ⟨rfl, HGZ.out⟩

theorem walk_ExtBack (v0 : Value) (a1 a2 : Int) {w : World} (s0 : SlN 2 w v0) (w1 : (Lit.int .u16 a1).wf = true) (w2 : (Lit.int .u8 a2).wf = true) :
    Calls Try.prog 12 #[v0, .int .u16 a1, .int .u8 a2] w fun e w' => e = .returned (.bool true) ∧ Below w.heap.size w w' := by
  have b1 := bounds_u16 w1
  have b2 := bounds_u8 w2
  exact (eback_any v0 a1 a2 w s0 b1.1 b1.2 b2.1 b2.2).mono fun e w' q => ⟨q.1, q.2.below0⟩

end Go.Proofs.Ytpkhfdcokcchdaa
