/-
  MgV: Frame, FrameS, FrameT, FrameN.
-/
import Derived.Test.YtdgcninmpcmdcaaRows
import Derived.WalkKit
import Derived.ProofKit
import Derived.OpenShut
import Derived.SizedLaws
import Derived.ChangeSlices
import Derived.Deep.Slices
import Derived.Deep.Grids
import Derived.Test.YtdgcninmpcmdcaaBase

/-
  The frame of a law's row, the part that is the same for all: arrays of integers opened; facts on the program.
-/
namespace Go.Proofs.Ytdgcninmpcmdcaa
open Go.ChangeShapes Go.WideShapes Go.ChangeAt Go.RowKit

theorem own_ : ownKnob Try.prog.godebug = none := by kernel_rfl
theorem laid_ : laidOutB Try.prog = true := by kernel_rfl

theorem okWide_arr {P : Program} {w : World} {r : Reach} {base : Nat} {t : TypeId} {v : Value} {n : Nat} {e : TypeId} (ht : P.underlying t = some (.array n e)) (h : Value.okWide P w r base t v) : ∃ cs, v = .agg cs ∧ cs.size = P.cellsOf t := by
  simp only [Value.okWide, ht] at h
  obtain ⟨cs, h1, h2, _⟩ := h
  exact ⟨cs, h1, h2⟩

/-- An array of integers by value, opened. -/
theorem open_ints_array {H : Type} {enc : TypeId × Value → H} {P : Program} {w : World} {b0 base : Nat} {spare : Nat → Bool} {held : Bool} {t e : TypeId} {n : Nat} {k : IntKind} {v : Value} {d : DataW H} {p : List MemPlace}
    (ht : P.underlying t = some (.array n e)) (he : P.underlying e = some (.int k)) (hc : P.cellsOf e = 1) (hn : P.cellsOf t = n)
    (hv : Value.okWide P w .any b0 t v) (h : DataW.Trod enc P w base spare held t v d p) :
    ∃ xs : List Int, v = .agg (xs.map (Value.int k)).toArray ∧ xs.length = n ∧ ∀ x ∈ xs, (Lit.int k x).wf = true := by
  obtain ⟨cs, rfl, hs⟩ := okWide_arr ht hv
  obtain ⟨fuel, hf⟩ := h
  obtain ⟨ys, m, _, _, hl, hy, hi⟩ := DataW.trod_array ht hf
  have hlen : cs.toList.length = n := by simpa [hn] using hs
  have key : ∀ i (h : i < cs.toList.length), ∃ x, cs.toList[i] = .int k x ∧ (Lit.int k x).wf = true := by
    intro i hlt
    have h1 := hi i (by omega)
    rw [hc, Nat.mul_one, List.getElem?_eq_getElem (by omega)] at h1
    obtain ⟨x, hx, _, hw⟩ := DataW.trod_int he h1
    refine ⟨x, ?_, hw⟩
    have h2 : (List.take 1 (List.drop i cs.toList))[0]? = some (Value.int k x) := by
      have : List.take 1 (List.drop i cs.toList) = [Value.int k x] := hx
      rw [this]; rfl
    rw [List.getElem?_take_of_lt (by omega), List.getElem?_drop, Nat.add_zero, List.getElem?_eq_getElem hlt] at h2
    exact Option.some.inj h2
  refine ⟨cs.toList.map fun c => match c with | .int _ x => x | _ => 0, ?_, by simpa using hlen, ?_⟩
  · have e1 : (cs.toList.map fun c => match c with | .int _ x => x | _ => 0).map (Value.int k) = cs.toList := by
      apply List.ext_getElem (by simp)
      intro i h1 h2
      obtain ⟨x, hx, _⟩ := key i h2
      simp only [List.getElem_map, hx]
    rw [e1]
  · intro x hx
    obtain ⟨c, hc1, hc2⟩ := List.mem_map.1 hx
    obtain ⟨i, hi1, hi2⟩ := List.getElem_of_mem hc1
    obtain ⟨y, hy1, hy2⟩ := key i hi1
    rw [← hc2, ← hi2, hy1]
    exact hy2

end Go.Proofs.Ytdgcninmpcmdcaa

/-
  Slices that come in as arguments of a law, opened: of integers.
-/
namespace Go.Proofs.Ytdgcninmpcmdcaa
open Go.ChangeShapes Go.WideShapes Go.ChangeAt Go.RowKit

/-- The slice v reads in w as the integers xs. -/
def SlI (k : IntKind) (w : World) (v : Value) (xs : List Int) : Prop :=
  (∃ ao cap, v = .slice ao 0 cap ∧ xs = [] ∧ (ao = none → cap = 0) ∧ cap ≤ maxLen) ∨
  ∃ b off cap, v = .slice (some ⟨b, off, none⟩) xs.length cap ∧ 0 < xs.length ∧ xs.length ≤ cap ∧ cap ≤ maxLen ∧ b < w.heap.size ∧ ∀ i x, xs[i]? = some x → w.cell? ⟨b, off + i, none⟩ = some (.int k x)

theorem open_il {H : Type} {enc : TypeId × Value → H} {P : Program} {w : World} {b0 base : Nat} {held : Bool} {t e : TypeId} {k : IntKind} {v : Value} {d : DataW H} {p : List MemPlace}
    (ht : P.underlying t = some (.slice e)) (he : P.underlying e = some (.int k)) (hc : P.cellsOf e = 1)
    (hv : Value.okWide P w .any b0 t v) (h : DataW.Trod enc P w base (fun _ => true) held t v d p) :
    ∃ xs : List Int, SlI k w v xs ∧ ∀ x ∈ xs, (Lit.int k x).wf = true := by
  obtain ⟨a0, len, cap, rfl⟩ := okWide_slice ht hv
  obtain ⟨fuel, hf⟩ := h
  rcases open_ints ht he hc hf with ⟨hcs, hx⟩ | ⟨a, len', cap', zs, hcs, _, hl, hm, hz, hx, hcell, hwz⟩
  · simp [Value.cells] at hcs
    obtain ⟨rfl, rfl, rfl⟩ := hcs
    exact ⟨[], .inl ⟨none, 0, rfl, rfl, fun _ => rfl, Nat.zero_le _⟩, fun x hx => by cases hx⟩
  · simp [Value.cells] at hcs
    obtain ⟨rfl, rfl, rfl⟩ := hcs
    simp only [if_true] at hz
    by_cases h0 : len = 0
    · subst h0
      exact ⟨[], .inl ⟨some a, cap, rfl, rfl, (fun e => by cases e), hm⟩, (fun x hx => by cases hx)⟩
    · obtain ⟨b, off, spot⟩ := a
      have hspot : spot = none := by simpa [Addr.add] using World.cell?_spot (hcell 0 (by omega))
      subst hspot
      have hlen : (zs.take len).length = len := by simp; omega
      refine ⟨zs.take len, .inr ⟨b, off, cap, by rw [hlen], by omega, by omega, hm, ?_, fun i x hi => ?_⟩, fun x hx => hwz x (List.mem_of_mem_take hx)⟩
      · have := block_lt_of_cell (hcell 0 (by omega))
        simpa [Addr.add] using this
      · have hil : i < len := by
          have := (List.getElem?_eq_some_iff.1 hi).1
          rw [hlen] at this
          exact this
        have hc1 := hcell i (by omega)
        rw [add_plain] at hc1
        rw [hc1]
        rw [List.getElem?_take_of_lt hil] at hi
        simp [List.getD, hi]

end Go.Proofs.Ytdgcninmpcmdcaa

/-
  Arguments of a law, opened: slices of bools, arrays of bools, arrays of arrays of integers.
-/
namespace Go.Proofs.Ytdgcninmpcmdcaa
open Go.ChangeShapes Go.WideShapes Go.ChangeAt Go.RowKit Go.Deep

/-- The slice v reads in w as the bools kp below kl. -/
def SlB (w : World) (v : Value) (kl : Nat) (kp : Nat → Bool) : Prop := ∃ ao kc, v = .slice ao kl kc ∧ (∀ j, j < kl → ∃ b o, ao = some ⟨b, o, none⟩ ∧ b < w.heap.size ∧ w.cell? ⟨b, o + j, none⟩ = some (.bool (kp j))) ∧ (∀ j, kl ≤ j → kp j = false) ∧ kl ≤ maxLen ∧ kl ≤ kc ∧ kc ≤ maxLen ∧ (ao = none → kc = 0)
theorem open_bl_raw {H : Type} {enc : TypeId × Value → H} {P : Program} {w : World} {base : Nat} {held : Bool} {t e : TypeId} {cs : List Value} {x : DataW H × List MemPlace} {fuel : Nat}
    (ht : P.underlying t = some (.slice e)) (he : P.underlying e = some .bool) (hc : P.cellsOf e = 1) (h : DataW.trod enc P w base (fun _ => true) held fuel t cs = some x) :
    ∃ v kl kp, cs = [v] ∧ SlB w v kl kp := by
  rcases open_bools ht he hc h with ⟨hcs, hx⟩ | ⟨a, len, cap, B, hcs, hb, hl, hm, hx, hcell⟩
  · exact ⟨_, 0, fun _ => false, hcs, none, 0, rfl, (fun j hj => by omega), (fun _ _ => rfl), Nat.zero_le _, Nat.le_refl _, Nat.zero_le _, fun _ => rfl⟩
  · refine ⟨_, len, fun j => if j < len then B j else false, hcs, some a, cap, rfl, fun j hj => ?_, fun j hj => if_neg (by omega), by omega, hl, hm, fun e => by cases e⟩
    obtain ⟨b, off, spot⟩ := a
    have hspot : spot = none := by simpa [Addr.add] using World.cell?_spot (hcell 0 (by omega))
    subst hspot
    have hc1 := hcell j (by omega)
    rw [add_plain] at hc1
    refine ⟨b, off, rfl, ?_, ?_⟩
    · have := block_lt_of_cell hc1
      exact this
    · dsimp only; rw [hc1, if_pos hj]
theorem open_bl {H : Type} {enc : TypeId × Value → H} {P : Program} {w : World} {base : Nat} {held : Bool} {t e : TypeId} {v : Value} {b0 : Nat} {d : DataW H} {p : List MemPlace}
    (ht : P.underlying t = some (.slice e)) (he : P.underlying e = some .bool) (hc : P.cellsOf e = 1) (hv : Value.okWide P w .any b0 t v) (h : DataW.Trod enc P w base (fun _ => true) held t v d p) :
    ∃ kl kp, SlB w v kl kp := by
  obtain ⟨a0, len, cap, rfl⟩ := okWide_slice ht hv
  obtain ⟨fuel, hf⟩ := h
  obtain ⟨v', kl, kp, hcs, hs⟩ := open_bl_raw ht he hc hf
  simp [Value.cells] at hcs
  subst hcs
  exact ⟨kl, kp, hs⟩

/-- An array of bools by value. -/
theorem open_barr {H : Type} {enc : TypeId × Value → H} {P : Program} {w : World} {b0 base : Nat} {spare : Nat → Bool} {held : Bool} {t e : TypeId} {n : Nat} {v : Value} {d : DataW H} {p : List MemPlace}
    (ht : P.underlying t = some (.array n e)) (he : P.underlying e = some .bool) (hc : P.cellsOf e = 1) (hn : P.cellsOf t = n)
    (hv : Value.okWide P w .any b0 t v) (h : DataW.Trod enc P w base spare held t v d p) :
    ∃ xs : List Bool, v = .agg (xs.map Value.bool).toArray ∧ xs.length = n := by
  obtain ⟨cs, rfl, hs⟩ := okWide_arr ht hv
  obtain ⟨fuel, hf⟩ := h
  obtain ⟨ys, m, _, _, hl, hy, hi⟩ := DataW.trod_array ht hf
  have hlen : cs.toList.length = n := by simpa [hn] using hs
  have key : ∀ i (h : i < cs.toList.length), ∃ x, cs.toList[i] = .bool x := by
    intro i hlt
    have h1 := hi i (by omega)
    rw [hc, Nat.mul_one, List.getElem?_eq_getElem (by omega)] at h1
    obtain ⟨x, hx, _⟩ := DataW.trod_bool he h1
    refine ⟨x, ?_⟩
    have h2 : (List.take 1 (List.drop i cs.toList))[0]? = some (Value.bool x) := by
      have : List.take 1 (List.drop i cs.toList) = [Value.bool x] := hx
      rw [this]; rfl
    rw [List.getElem?_take_of_lt (by omega), List.getElem?_drop, Nat.add_zero, List.getElem?_eq_getElem hlt] at h2
    exact Option.some.inj h2
  refine ⟨cs.toList.map fun c => match c with | .bool x => x | _ => false, ?_, by simpa using hlen⟩
  have e1 : (cs.toList.map fun c => match c with | .bool x => x | _ => false).map Value.bool = cs.toList := by
    apply List.ext_getElem (by simp)
    intro i h1 h2
    obtain ⟨x, hx⟩ := key i h2
    simp only [List.getElem_map, hx]
  rw [e1]

/-- The cells of an array of integers, read. -/
theorem trod_ints_array {H : Type} {enc : TypeId × Value → H} {P : Program} {w : World} {base : Nat} {spare : Nat → Bool} {held : Bool} {t e : TypeId} {n : Nat} {k : IntKind} {cs : List Value} {x : DataW H × List MemPlace} {fuel : Nat}
    (ht : P.underlying t = some (.array n e)) (he : P.underlying e = some (.int k)) (hc : P.cellsOf e = 1) (hn : P.cellsOf t = n) (hf : DataW.trod enc P w base spare held fuel t cs = some x) :
    cs.length = n ∧ ∀ i, i < n → ∃ z, cs[i]? = some (.int k z) ∧ (Lit.int k z).wf = true := by
  obtain ⟨ys, m, _, _, hl, hy, hi⟩ := DataW.trod_array ht hf
  refine ⟨by rw [hl, hn], fun i hlt => ?_⟩
  have h1 := hi i hlt
  rw [hc, Nat.mul_one, List.getElem?_eq_getElem (by omega)] at h1
  obtain ⟨z, hz, _, hw⟩ := DataW.trod_int he h1
  refine ⟨z, ?_, hw⟩
  have h2 : (List.take 1 (List.drop i cs))[0]? = some (Value.int k z) := by
    have : List.take 1 (List.drop i cs) = [Value.int k z] := hz
    rw [this]; rfl
  rw [List.getElem?_take_of_lt (by omega), List.getElem?_drop, Nat.add_zero] at h2
  exact h2
/-- An array of arrays of integers by value, flat. -/
theorem open_grid {H : Type} {enc : TypeId × Value → H} {P : Program} {w : World} {b0 base : Nat} {spare : Nat → Bool} {held : Bool} {t r e : TypeId} {m n : Nat} {k : IntKind} {v : Value} {d : DataW H} {p : List MemPlace}
    (ht : P.underlying t = some (.array m r)) (hr : P.underlying r = some (.array n e)) (he : P.underlying e = some (.int k)) (hc : P.cellsOf e = 1) (hn : P.cellsOf r = n) (hm : P.cellsOf t = m * n) (hn0 : 0 < n)
    (hv : Value.okWide P w .any b0 t v) (h : DataW.Trod enc P w base spare held t v d p) :
    ∃ xs : List Int, v = .agg (xs.map (Value.int k)).toArray ∧ xs.length = m * n ∧ ∀ x ∈ xs, (Lit.int k x).wf = true := by
  obtain ⟨cs, rfl, hs⟩ := okWide_arr ht hv
  obtain ⟨fuel, hf⟩ := h
  obtain ⟨ys, fu, _, _, hl, hy, hi⟩ := DataW.trod_array ht hf
  have hlen : cs.toList.length = m * n := by simpa [hm] using hs
  have key : ∀ i (h : i < cs.toList.length), ∃ x, cs.toList[i] = .int k x ∧ (Lit.int k x).wf = true := by
    intro i hlt
    have hq : i / n < m := by
      rw [Nat.div_lt_iff_lt_mul hn0]
      omega
    have h1 := hi (i / n) hq
    rw [hn, List.getElem?_eq_getElem (by omega)] at h1
    obtain ⟨_, h3⟩ := trod_ints_array hr he hc hn h1
    obtain ⟨z, hz, hw⟩ := h3 (i % n) (Nat.mod_lt _ hn0)
    refine ⟨z, ?_, hw⟩
    have h2 : (List.take n (List.drop (i / n * n) cs.toList))[i % n]? = some (Value.int k z) := hz
    rw [List.getElem?_take_of_lt (Nat.mod_lt _ hn0), List.getElem?_drop, Nat.mul_comm, Nat.div_add_mod, List.getElem?_eq_getElem hlt] at h2
    exact Option.some.inj h2
  refine ⟨cs.toList.map fun c => match c with | .int _ x => x | _ => 0, ?_, by simpa using hlen, ?_⟩
  · have e1 : (cs.toList.map fun c => match c with | .int _ x => x | _ => 0).map (Value.int k) = cs.toList := by
      apply List.ext_getElem (by simp)
      intro i h1 h2
      obtain ⟨x, hx, _⟩ := key i h2
      simp only [List.getElem_map, hx]
    rw [e1]
  · intro x hx
    obtain ⟨c, hc1, hc2⟩ := List.mem_map.1 hx
    obtain ⟨i, hi1, hi2⟩ := List.getElem_of_mem hc1
    obtain ⟨y, hy1, hy2⟩ := key i hi1
    rw [← hc2, ← hi2, hy1]
    exact hy2

end Go.Proofs.Ytdgcninmpcmdcaa

/-
  Slices of acts (three integers, a word, a text, a list of bools) that come in as an argument of a law, opened.
-/
namespace Go.Proofs.Ytdgcninmpcmdcaa
open Go.ChangeShapes Go.WideShapes Go.ChangeAt Go.RowKit
set_option linter.unusedVariables false

structure ActL where
  d : Int
  z : Int
  k : Int
  v : Nat
  s : ByteArray
  ao : Option Addr
  kl : Nat
  kc : Nat
  kp : Nat → Bool
def I64 (x : Int) : Prop := -9223372036854775808 ≤ x ∧ x ≤ 9223372036854775807
def ActLIs (w : World) (x : ActL) : Prop :=
  I64 x.d ∧ I64 x.z ∧ I64 x.k ∧ x.v < 18446744073709551616 ∧ x.s.size ≤ maxLen ∧
  (∀ j, j < x.kl → ∃ b o, x.ao = some ⟨b, o, none⟩ ∧ b < w.heap.size ∧ w.cell? ⟨b, o + j, none⟩ = some (.bool (x.kp j))) ∧ x.kl ≤ x.kc ∧ x.kc ≤ maxLen ∧ (x.ao = none → x.kc = 0)
def ActLAt (w : World) (b o : Nat) (x : ActL) : Prop :=
  w.cell? ⟨b, o, none⟩ = some (.int .i64 x.d) ∧ w.cell? ⟨b, o + 1, none⟩ = some (.int .i64 x.z) ∧ w.cell? ⟨b, o + 2, none⟩ = some (.int .i64 x.k) ∧ w.cell? ⟨b, o + 3, none⟩ = some (.int .u64 (x.v : Int)) ∧ w.cell? ⟨b, o + 4, none⟩ = some (.string x.s) ∧ w.cell? ⟨b, o + 5, none⟩ = some (.slice x.ao x.kl x.kc)
def SlL (w : World) (v : Value) : Prop :=
  (∃ ao cap, v = .slice ao 0 cap ∧ (ao = none → cap = 0) ∧ cap ≤ maxLen) ∨
  ∃ b off n cap, ∃ xs : Nat → ActL, v = .slice (some ⟨b, off, none⟩) n cap ∧ 0 < n ∧ n ≤ cap ∧ cap ≤ maxLen ∧ b < w.heap.size ∧ ∀ i, i < n → ActLIs w (xs i) ∧ ActLAt w b (off + i * 6) (xs i)

theorem open_actl {H : Type} {enc : TypeId × Value → H} {P : Program} {w : World} {base : Nat} {held : Bool} {e eb : TypeId} {fs : Array Field} {f0 f1 f2 f3 f4 f5 : Field} {cs : List Value} {x : DataW H × List MemPlace} {fuel : Nat}
    (he : P.underlying e = some (.struct fs)) (h0 : fs[0]? = some f0) (h1 : fs[1]? = some f1) (h2 : fs[2]? = some f2) (h3 : fs[3]? = some f3) (h4 : fs[4]? = some f4) (h5 : fs[5]? = some f5)
    (o0 : f0.offset = 0) (o1 : f1.offset = 1) (o2 : f2.offset = 2) (o3 : f3.offset = 3) (o4 : f4.offset = 4) (o5 : f5.offset = 5)
    (t0 : P.underlying f0.type = some (.int .i64)) (t1 : P.underlying f1.type = some (.int .i64)) (t2 : P.underlying f2.type = some (.int .i64)) (t3 : P.underlying f3.type = some (.int .u64)) (t4 : P.underlying f4.type = some .string) (t5 : P.underlying f5.type = some (.slice eb)) (tb : P.underlying eb = some .bool)
    (c0 : P.cellsOf f0.type = 1) (c1 : P.cellsOf f1.type = 1) (c2 : P.cellsOf f2.type = 1) (c3 : P.cellsOf f3.type = 1) (c4 : P.cellsOf f4.type = 1) (c5 : P.cellsOf f5.type = 1) (cb : P.cellsOf eb = 1)
    (h : DataW.trod enc P w base (fun _ => true) held fuel e cs = some x) :
    ∃ y : ActL, ActLIs w y ∧ cs[0]? = some (.int .i64 y.d) ∧ cs[1]? = some (.int .i64 y.z) ∧ cs[2]? = some (.int .i64 y.k) ∧ cs[3]? = some (.int .u64 (y.v : Int)) ∧ cs[4]? = some (.string y.s) ∧ cs[5]? = some (.slice y.ao y.kl y.kc) := by
  obtain ⟨ys, n, _, _, hl, hy, hi⟩ := DataW.trod_struct he h
  have hsz : 5 < fs.size := (Array.getElem?_eq_some_iff.1 h5).1
  have key : ∀ (i : Nat) (v : Value), (cs.drop i).take 1 = [v] → cs[i]? = some v := fun i v hd => by
    have : (List.take 1 (List.drop i cs))[0]? = some v := by rw [hd]; rfl
    rw [List.getElem?_take_of_lt (by omega), List.getElem?_drop, Nat.add_zero] at this
    exact this
  have r0 := hi 0 f0 h0
  have r1 := hi 1 f1 h1
  have r2 := hi 2 f2 h2
  have r3 := hi 3 f3 h3
  have r4 := hi 4 f4 h4
  have r5 := hi 5 f5 h5
  rw [o0, c0, List.getElem?_eq_getElem (by omega)] at r0
  rw [o1, c1, List.getElem?_eq_getElem (by omega)] at r1
  rw [o2, c2, List.getElem?_eq_getElem (by omega)] at r2
  rw [o3, c3, List.getElem?_eq_getElem (by omega)] at r3
  rw [o4, c4, List.getElem?_eq_getElem (by omega)] at r4
  rw [o5, c5, List.getElem?_eq_getElem (by omega)] at r5
  obtain ⟨d, hd, _, wd⟩ := DataW.trod_int t0 r0
  obtain ⟨z, hz, _, wz⟩ := DataW.trod_int t1 r1
  obtain ⟨k, hk, _, wk⟩ := DataW.trod_int t2 r2
  obtain ⟨v, hv, _, wv⟩ := DataW.trod_int t3 r3
  obtain ⟨s, hs, _, ws⟩ := DataW.trod_string t4 r4
  obtain ⟨kv, kl, kp, hkv, ao, kc, rfl, q1, q2, q3, q4, q5, q6⟩ := open_bl_raw t5 tb cb r5
  obtain ⟨u, rfl, hu⟩ := natU64 wv
  exact ⟨⟨d, z, k, u, s, ao, kl, kc, kp⟩, ⟨bounds_i64 wd, bounds_i64 wz, bounds_i64 wk, hu, ws, q1, q4, q5, q6⟩, key 0 _ hd, key 1 _ hz, key 2 _ hk, key 3 _ hv, key 4 _ hs, key 5 _ hkv⟩

theorem open_actsl {H : Type} {enc : TypeId × Value → H} {P : Program} {w : World} {base : Nat} {held : Bool} {t e eb : TypeId} {fs : Array Field} {f0 f1 f2 f3 f4 f5 : Field} {v : Value} {b0 : Nat} {d : DataW H} {p : List MemPlace}
    (ht : P.underlying t = some (.slice e)) (he : P.underlying e = some (.struct fs)) (h0 : fs[0]? = some f0) (h1 : fs[1]? = some f1) (h2 : fs[2]? = some f2) (h3 : fs[3]? = some f3) (h4 : fs[4]? = some f4) (h5 : fs[5]? = some f5)
    (o0 : f0.offset = 0) (o1 : f1.offset = 1) (o2 : f2.offset = 2) (o3 : f3.offset = 3) (o4 : f4.offset = 4) (o5 : f5.offset = 5)
    (t0 : P.underlying f0.type = some (.int .i64)) (t1 : P.underlying f1.type = some (.int .i64)) (t2 : P.underlying f2.type = some (.int .i64)) (t3 : P.underlying f3.type = some (.int .u64)) (t4 : P.underlying f4.type = some .string) (t5 : P.underlying f5.type = some (.slice eb)) (tb : P.underlying eb = some .bool)
    (c0 : P.cellsOf f0.type = 1) (c1 : P.cellsOf f1.type = 1) (c2 : P.cellsOf f2.type = 1) (c3 : P.cellsOf f3.type = 1) (c4 : P.cellsOf f4.type = 1) (c5 : P.cellsOf f5.type = 1) (cb : P.cellsOf eb = 1) (ce : P.cellsOf e = 6)
    (hv : Value.okWide P w .any b0 t v) (h : DataW.Trod enc P w base (fun _ => true) held t v d p) : SlL w v := by
  obtain ⟨a0, len, cap, rfl⟩ := okWide_slice ht hv
  obtain ⟨fuel, hf⟩ := h
  rcases DataW.trod_slice ht hf with ⟨hcs, _⟩ | ⟨a, len', cap', elems, rest, n, _, hcs, _, hb, hl, hm, hlen, hel, _, _⟩
  · simp [Value.cells] at hcs
    obtain ⟨rfl, rfl, rfl⟩ := hcs
    exact .inl ⟨none, 0, rfl, fun _ => rfl, Nat.zero_le _⟩
  · simp [Value.cells] at hcs
    obtain ⟨rfl, rfl, rfl⟩ := hcs
    by_cases hz : len = 0
    · subst hz
      exact .inl ⟨some a, cap, rfl, (fun e => by cases e), hm⟩
    · have each : ∀ i, i < len → ∃ y : ActL, ActLIs w y ∧ w.cell? ((a.add (i * 6)).add 0) = some (.int .i64 y.d) ∧ w.cell? ((a.add (i * 6)).add 1) = some (.int .i64 y.z) ∧ w.cell? ((a.add (i * 6)).add 2) = some (.int .i64 y.k) ∧ w.cell? ((a.add (i * 6)).add 3) = some (.int .u64 (y.v : Int)) ∧ w.cell? ((a.add (i * 6)).add 4) = some (.string y.s) ∧ w.cell? ((a.add (i * 6)).add 5) = some (.slice y.ao y.kl y.kc) := by
        intro i hi
        have q := hel i hi
        rw [ce, List.getElem?_eq_getElem (by omega), Option.bind_eq_some_iff] at q
        obtain ⟨cs', hc', hy⟩ := q
        obtain ⟨_, _, hc2⟩ := World.cells?_some hc'
        obtain ⟨y, hy1, e0, e1, e2, e3, e4, e5⟩ := open_actl he h0 h1 h2 h3 h4 h5 o0 o1 o2 o3 o4 o5 t0 t1 t2 t3 t4 t5 tb c0 c1 c2 c3 c4 c5 cb hy
        exact ⟨y, hy1, (hc2 0 (by omega)).trans e0, (hc2 1 (by omega)).trans e1, (hc2 2 (by omega)).trans e2, (hc2 3 (by omega)).trans e3, (hc2 4 (by omega)).trans e4, (hc2 5 (by omega)).trans e5⟩
      obtain ⟨b, off, spot⟩ := a
      have hspot : spot = none := by
        obtain ⟨y, _, e0, _⟩ := each 0 (by omega)
        simpa [Addr.add] using World.cell?_spot e0
      subst hspot
      have hcl : ∀ i k, ((⟨b, off, none⟩ : Addr).add (i * 6)).add k = ⟨b, off + i * 6 + k, none⟩ := fun i k => by rw [add_plain, add_plain]
      have each2 : ∀ i, i < len → ∃ y : ActL, ActLIs w y ∧ ActLAt w b (off + i * 6) y := fun i hi => by
        obtain ⟨y, y1, e0, e1, e2, e3, e4, e5⟩ := each i hi
        rw [hcl] at e0 e1 e2 e3 e4 e5
        exact ⟨y, y1, e0, e1, e2, e3, e4, e5⟩
      refine .inr ⟨b, off, len, cap, fun i => if hi : i < len then Classical.choose (each2 i hi) else ⟨0, 0, 0, 0, ⟨#[]⟩, none, 0, 0, fun _ => false⟩, rfl, by omega, hl, hm, ?_, fun i hi => ?_⟩
      · obtain ⟨y, _, e0, _⟩ := each2 0 (by omega)
        exact block_lt_of_cell e0
      · dsimp only
        rw [dif_pos hi]
        exact Classical.choose_spec (each2 i hi)

end Go.Proofs.Ytdgcninmpcmdcaa
