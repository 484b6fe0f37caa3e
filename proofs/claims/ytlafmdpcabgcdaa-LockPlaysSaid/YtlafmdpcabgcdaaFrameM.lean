/-
  Slices of slices of integers, slices of acts with a list, that come in as arguments of a law, opened.
-/
import Derived.Test.YtlafmdpcabgcdaaFrameS
import Derived.Test.YtlafmdpcabgcdaaLkG
import Derived.Deep.Slices
namespace Go.Proofs.Ytlafmdpcabgcdaa
open Go.ChangeShapes Go.WideShapes Go.ChangeAt Go.RowKit Go.Deep

theorem trod_slz {H : Type} {enc : TypeId × Value → H} {P : Program} {w : World} {base fuel : Nat} {held : Bool} {t e : TypeId} {v : Value} {x : DataW H × List MemPlace}
    (ht : P.underlying t = some (.slice e)) (he : P.underlying e = some (.int .i64)) (hc : P.cellsOf e = 1) (h : DataW.trod enc P w base (fun _ => true) held fuel t [v] = some x) :
    ∃ xs : List Int, SlZ w v xs ∧ ∀ x ∈ xs, WfZ x := by
  rcases open_ints ht he hc h with ⟨hcs, hx⟩ | ⟨a, len, cap, zs, hcs, _, hl, hm, hz, hx, hcell, hwz⟩
  · simp at hcs
    subst hcs
    exact ⟨[], ⟨none, 0, rfl, RdI.nil _ _, by simp, by unfold maxLen; omega, fun _ => rfl⟩, fun x hx => by cases hx⟩
  · simp at hcs
    subst hcs
    simp only [if_true] at hz
    have hlen : (zs.take len).length = len := by simp; omega
    refine ⟨zs.take len, ⟨some a, cap, by rw [hlen], fun i x hi => ?_, by rw [hlen]; exact hl, hm, fun e => by cases e⟩, fun x hx => hwz x (List.mem_of_mem_take hx)⟩
    have hil : i < len := by
      have := (List.getElem?_eq_some_iff.1 hi).1
      rw [hlen] at this
      exact this
    obtain ⟨b, off, spot⟩ := a
    have hspot : spot = none := by simpa [Addr.add] using World.cell?_spot (hcell 0 (by omega))
    subst hspot
    have hc1 := hcell i (by omega)
    rw [add_plain] at hc1
    refine ⟨b, off, rfl, block_lt_of_cell hc1, ?_⟩
    rw [hc1]
    rw [List.getElem?_take_of_lt hil] at hi
    simp [List.getD, hi]
/-- Rows of integers, read. -/
def RowsAt (w : World) (ao : Option Addr) (R : List (Value × List Int)) : Prop :=
  ∀ (i : Nat) (e : Value × List Int), R[i]? = some e → ∃ k o, ao = some ⟨k, o, none⟩ ∧ k < w.heap.size ∧ w.cell? ⟨k, o + i, none⟩ = some e.1 ∧ SlZ w e.1 e.2 ∧ ∀ x ∈ e.2, WfZ x
def RowsZ (w : World) (v : Value) (R : List (Value × List Int)) : Prop := ∃ ao cap, v = .slice ao R.length cap ∧ R.length ≤ cap ∧ cap ≤ maxLen ∧ (ao = none → cap = 0) ∧ RowsAt w ao R
theorem open_rowsZ {H : Type} {enc : TypeId × Value → H} {P : Program} {w : World} {b0 base : Nat} {held : Bool} {t e q : TypeId} {v : Value} {d : DataW H} {p : List MemPlace}
    (ht : P.underlying t = some (.slice e)) (he : P.underlying e = some (.slice q)) (hq : P.underlying q = some (.int .i64)) (ce : P.cellsOf e = 1) (cq : P.cellsOf q = 1)
    (hv : Value.okWide P w .any b0 t v) (h : DataW.Trod enc P w base (fun _ => true) held t v d p) : ∃ R, RowsZ w v R := by
  obtain ⟨a0, len, cap, rfl⟩ := okWide_slice ht hv
  obtain ⟨fuel, hf⟩ := h
  rcases open_slice1 ht ce hf with ⟨hcs, hx⟩ | ⟨a, len', cap', m, n, V, D, Pl, hcs, _, hl, hm, hmm, hx, hcell⟩
  · simp [Value.cells] at hcs
    obtain ⟨rfl, rfl, rfl⟩ := hcs
    exact ⟨[], none, 0, rfl, by simp, by unfold maxLen; omega, fun _ => rfl, fun i e hi => by simp at hi⟩
  · simp [Value.cells] at hcs
    obtain ⟨rfl, rfl, rfl⟩ := hcs
    simp only [if_true] at hmm
    have each : ∀ i, i < len → ∃ xs : List Int, SlZ w (V i) xs ∧ ∀ x ∈ xs, WfZ x := fun i hi => trod_slz he hq cq (hcell i (by omega)).2
    obtain ⟨X, hX⟩ := choose_lt each
    have hlen : ((List.range len).map fun i => (V i, X i)).length = len := by simp
    refine ⟨(List.range len).map fun i => (V i, X i), some a, cap, by rw [hlen], by rw [hlen]; exact hl, hm, (fun e => by cases e), fun i e hi => ?_⟩
    have hil : i < len := by
      have := (List.getElem?_eq_some_iff.1 hi).1
      rw [hlen] at this
      exact this
    rw [List.getElem?_map, List.getElem?_range hil] at hi
    simp at hi
    subst hi
    obtain ⟨b, off, spot⟩ := a
    have hc0 := (hcell i (by omega)).1
    have hspot : spot = none := by simpa [Addr.add] using World.cell?_spot (hcell 0 (by omega)).1
    subst hspot
    rw [add_plain] at hc0
    exact ⟨b, off, rfl, block_lt_of_cell hc0, hc0, hX i hil⟩
/-- An act: what is done, by whom, on which. -/
structure AL24 where
  d : Int
  c : Int
  v : Value
  xs : List Int
instance : Inhabited AL24 := ⟨⟨0, 0, .slice none 0 0, []⟩⟩
def ActsAt (w : World) (ao : Option Addr) (R : List AL24) : Prop :=
  ∀ (i : Nat) (e : AL24), R[i]? = some e → ∃ k o, ao = some ⟨k, o, none⟩ ∧ k < w.heap.size ∧ w.cell? ⟨k, o + i * 3, none⟩ = some (.int .i64 e.d) ∧ w.cell? ⟨k, o + i * 3 + 1, none⟩ = some (.int .i64 e.c) ∧ w.cell? ⟨k, o + i * 3 + 2, none⟩ = some e.v ∧ SlZ w e.v e.xs ∧ ∀ x ∈ e.xs, WfZ x
def ActsZ (w : World) (v : Value) (R : List AL24) : Prop := ∃ ao cap, v = .slice ao R.length cap ∧ R.length ≤ cap ∧ cap ≤ maxLen ∧ (ao = none → cap = 0) ∧ ActsAt w ao R
theorem open_act24 {H : Type} {enc : TypeId × Value → H} {P : Program} {w : World} {base : Nat} {held : Bool} {T ib : TypeId} {fs : Array Field} {f0 f1 f2 : Field} {cs : List Value} {fuel : Nat} {y : DataW H × List MemPlace}
    (he : P.underlying T = some (.struct fs)) (h0 : fs[0]? = some f0) (h1 : fs[1]? = some f1) (h2 : fs[2]? = some f2) (o0 : f0.offset = 0) (o1 : f1.offset = 1) (o2 : f2.offset = 2)
    (t0 : P.underlying f0.type = some (.int .i64)) (t1 : P.underlying f1.type = some (.int .i64)) (t2 : P.underlying f2.type = some (.slice ib)) (ti : P.underlying ib = some (.int .i64)) (c0 : P.cellsOf f0.type = 1) (c1 : P.cellsOf f1.type = 1) (c2 : P.cellsOf f2.type = 1) (ci : P.cellsOf ib = 1)
    (hf : DataW.trod enc P w base (fun _ => true) held fuel T cs = some y) :
    ∃ a : AL24, (SlZ w a.v a.xs ∧ ∀ x ∈ a.xs, WfZ x) ∧ cs[0]? = some (.int .i64 a.d) ∧ cs[1]? = some (.int .i64 a.c) ∧ cs[2]? = some a.v := by
  obtain ⟨ys, n, _, _, hl, hy, hi⟩ := DataW.trod_struct he hf
  have hsf : 2 < fs.size := (Array.getElem?_eq_some_iff.1 h2).1
  have key : ∀ (i : Nat) (v : Value), (cs.drop i).take 1 = [v] → cs[i]? = some v := fun i v hd => by
    have : (List.take 1 (List.drop i cs))[0]? = some v := by rw [hd]; rfl
    rw [List.getElem?_take_of_lt (by omega), List.getElem?_drop, Nat.add_zero] at this
    exact this
  have r0 := hi 0 f0 h0
  have r1 := hi 1 f1 h1
  have r2 := hi 2 f2 h2
  rw [o0, c0, List.getElem?_eq_getElem (by omega)] at r0
  rw [o1, c1, List.getElem?_eq_getElem (by omega)] at r1
  rw [o2, c2, List.getElem?_eq_getElem (by omega)] at r2
  obtain ⟨d, hd, _, wd⟩ := DataW.trod_int t0 r0
  obtain ⟨c, hc, _, wc⟩ := DataW.trod_int t1 r1
  obtain ⟨v, hv⟩ : ∃ v, (cs.drop 2).take 1 = [v] := by
    rcases open_ints t2 ti ci r2 with ⟨hcs, _⟩ | ⟨a, len, cap, zs, hcs, _⟩
    · exact ⟨_, hcs⟩
    · exact ⟨_, hcs⟩
  rw [hv] at r2
  obtain ⟨xs, hx1, hx2⟩ := trod_slz t2 ti ci r2
  exact ⟨⟨d, c, v, xs⟩, ⟨hx1, hx2⟩, key 0 _ hd, key 1 _ hc, key 2 _ hv⟩
theorem open_acts24 {H : Type} {enc : TypeId × Value → H} {P : Program} {w : World} {base : Nat} {held : Bool} {t e ib : TypeId} {fs : Array Field} {f0 f1 f2 : Field} {v : Value} {b0 : Nat} {d : DataW H} {p : List MemPlace}
    (ht : P.underlying t = some (.slice e)) (he : P.underlying e = some (.struct fs)) (h0 : fs[0]? = some f0) (h1 : fs[1]? = some f1) (h2 : fs[2]? = some f2) (o0 : f0.offset = 0) (o1 : f1.offset = 1) (o2 : f2.offset = 2)
    (t0 : P.underlying f0.type = some (.int .i64)) (t1 : P.underlying f1.type = some (.int .i64)) (t2 : P.underlying f2.type = some (.slice ib)) (ti : P.underlying ib = some (.int .i64)) (c0 : P.cellsOf f0.type = 1) (c1 : P.cellsOf f1.type = 1) (c2 : P.cellsOf f2.type = 1) (ci : P.cellsOf ib = 1) (ce : P.cellsOf e = 3)
    (hv : Value.okWide P w .any b0 t v) (h : DataW.Trod enc P w base (fun _ => true) held t v d p) : ∃ R, ActsZ w v R := by
  obtain ⟨a0, len, cap, rfl⟩ := okWide_slice ht hv
  obtain ⟨fuel, hf⟩ := h
  rcases DataW.trod_slice ht hf with ⟨hcs, _⟩ | ⟨a, len', cap', elems, rest, n, _, hcs, _, hb, hl, hm, hlen, hel, _, _⟩
  · simp [Value.cells] at hcs
    obtain ⟨rfl, rfl, rfl⟩ := hcs
    exact ⟨[], none, 0, rfl, by simp, by unfold maxLen; omega, fun _ => rfl, fun i e hi => by simp at hi⟩
  · simp [Value.cells] at hcs
    obtain ⟨rfl, rfl, rfl⟩ := hcs
    have each : ∀ i, i < len → ∃ y : AL24, (SlZ w y.v y.xs ∧ ∀ x ∈ y.xs, WfZ x) ∧ w.cell? ((a.add (i * 3)).add 0) = some (.int .i64 y.d) ∧ w.cell? ((a.add (i * 3)).add 1) = some (.int .i64 y.c) ∧ w.cell? ((a.add (i * 3)).add 2) = some y.v := by
      intro i hi
      have q := hel i hi
      rw [ce, List.getElem?_eq_getElem (by omega), Option.bind_eq_some_iff] at q
      obtain ⟨cs', hc', hy⟩ := q
      obtain ⟨_, _, hc2⟩ := World.cells?_some hc'
      obtain ⟨y, hy1, e0, e1, e2⟩ := open_act24 he h0 h1 h2 o0 o1 o2 t0 t1 t2 ti c0 c1 c2 ci hy
      exact ⟨y, hy1, (hc2 0 (by omega)).trans e0, (hc2 1 (by omega)).trans e1, (hc2 2 (by omega)).trans e2⟩
    obtain ⟨X, hX⟩ := choose_lt each
    have hlen2 : ((List.range len).map X).length = len := by simp
    refine ⟨(List.range len).map X, some a, cap, by rw [hlen2], by rw [hlen2]; exact hl, hm, (fun e => by cases e), fun i e hi => ?_⟩
    have hil : i < len := by
      have := (List.getElem?_eq_some_iff.1 hi).1
      rw [hlen2] at this
      exact this
    rw [List.getElem?_map, List.getElem?_range hil] at hi
    simp at hi
    subst hi
    obtain ⟨q0, q1, q2, q3⟩ := hX i hil
    obtain ⟨b, off, spot⟩ := a
    have hspot : spot = none := by simpa [Addr.add] using World.cell?_spot (hX 0 (by omega)).2.1
    subst hspot
    rw [add_plain, add_plain] at q1 q2 q3
    exact ⟨b, off, rfl, block_lt_of_cell q1, by simpa using q1, q2, q3, q0⟩
end Go.Proofs.Ytlafmdpcabgcdaa
