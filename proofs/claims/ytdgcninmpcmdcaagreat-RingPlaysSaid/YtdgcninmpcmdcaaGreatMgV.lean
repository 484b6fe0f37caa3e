/-
  MgV: Frame, FrameS, FrameT, FrameU.
-/
import Derived.Test.YtdgcninmpcmdcaaGreatRows
import Derived.WalkKit
import Derived.ProofKit
import Derived.OpenShut
import Derived.SizedLaws
import Derived.ChangeSlices
import Derived.Deep.Slices
import Derived.Deep.Grids

/-
  The frame of a law's row, the part that is the same for all: arrays of integers opened; facts on the program.
-/
namespace Go.Proofs.YtdgcninmpcmdcaaGreat
open Go.ChangeShapes Go.WideShapes Go.ChangeAt Go.RowKit

theorem own_ : ownKnob Tryz.prog.godebug = none := by kernel_rfl
theorem laid_ : laidOutB Tryz.prog = true := by kernel_rfl

theorem okWide_arr {P : Program} {w : World} {r : Reach} {base : Nat} {t : TypeId} {v : Value} {n : Nat} {e : TypeId} (ht : P.underlying t = some (.array n e)) (h : Value.okWide P w r base t v) : ∃ cs, v = .agg cs ∧ cs.size = P.cellsOf t := by
  simp only [Value.okWide, ht] at h
  obtain ⟨cs, h1, h2, _⟩ := h
  exact ⟨cs, h1, h2⟩

/-- An array of integers by value, opened. -/
theorem open_ints_array {H : Type} {enc : TypeId × Value → H} {P : Program} {w : World} {b0 base : Nat} {spare : Nat → Bool} {held : Bool} {t e : TypeId} {n : Nat} {k : IntKind} {v : Value} {d : DataW H} {p : List MemPlace}
    (ht : P.underlying t = some (.array n e)) (he : P.underlying e = some (.int k)) (hc : P.cellsOf e = 1) (hn : P.cellsOf t = n)
    (hv : Value.okWide P w .any b0 t v) (h : DataW.Trod enc P w base spare held t v d p) :
    ∃ xs : List Int, v = .agg (xs.map (Value.int k)).toArray ∧ xs.length = n ∧ ∀ x ∈ xs, (Lit.int k x).wf = true := by
  obtain ⟨cs, rfl, hs⟩ := okWide_arr ht hv
  obtain ⟨fuel, hf⟩ := h
  obtain ⟨ys, m, _, _, hl, hy, hi⟩ := DataW.trod_array ht hf
  have hlen : cs.toList.length = n := by simpa [hn] using hs
  have key : ∀ i (h : i < cs.toList.length), ∃ x, cs.toList[i] = .int k x ∧ (Lit.int k x).wf = true := by
    intro i hlt
    have h1 := hi i (by omega)
    rw [hc, Nat.mul_one, List.getElem?_eq_getElem (by omega)] at h1
    obtain ⟨x, hx, _, hw⟩ := DataW.trod_int he h1
    refine ⟨x, ?_, hw⟩
    have h2 : (List.take 1 (List.drop i cs.toList))[0]? = some (Value.int k x) := by
      have : List.take 1 (List.drop i cs.toList) = [Value.int k x] := hx
      rw [this]; rfl
    rw [List.getElem?_take_of_lt (by omega), List.getElem?_drop, Nat.add_zero, List.getElem?_eq_getElem hlt] at h2
    exact Option.some.inj h2
  refine ⟨cs.toList.map fun c => match c with | .int _ x => x | _ => 0, ?_, by simpa using hlen, ?_⟩
  · have e1 : (cs.toList.map fun c => match c with | .int _ x => x | _ => 0).map (Value.int k) = cs.toList := by
      apply List.ext_getElem (by simp)
      intro i h1 h2
      obtain ⟨x, hx, _⟩ := key i h2
      simp only [List.getElem_map, hx]
    rw [e1]
  · intro x hx
    obtain ⟨c, hc1, hc2⟩ := List.mem_map.1 hx
    obtain ⟨i, hi1, hi2⟩ := List.getElem_of_mem hc1
    obtain ⟨y, hy1, hy2⟩ := key i hi1
    rw [← hc2, ← hi2, hy1]
    exact hy2

end Go.Proofs.YtdgcninmpcmdcaaGreat

/-
  Slices that come in as arguments of a law, opened: of integers.
-/
namespace Go.Proofs.YtdgcninmpcmdcaaGreat
open Go.ChangeShapes Go.WideShapes Go.ChangeAt Go.RowKit

/-- The slice v reads in w as the integers xs. -/
def SlI (k : IntKind) (w : World) (v : Value) (xs : List Int) : Prop :=
  (∃ ao cap, v = .slice ao 0 cap ∧ xs = [] ∧ (ao = none → cap = 0) ∧ cap ≤ maxLen) ∨
  ∃ b off cap, v = .slice (some ⟨b, off, none⟩) xs.length cap ∧ 0 < xs.length ∧ xs.length ≤ cap ∧ cap ≤ maxLen ∧ b < w.heap.size ∧ ∀ i x, xs[i]? = some x → w.cell? ⟨b, off + i, none⟩ = some (.int k x)

theorem open_il {H : Type} {enc : TypeId × Value → H} {P : Program} {w : World} {b0 base : Nat} {held : Bool} {t e : TypeId} {k : IntKind} {v : Value} {d : DataW H} {p : List MemPlace}
    (ht : P.underlying t = some (.slice e)) (he : P.underlying e = some (.int k)) (hc : P.cellsOf e = 1)
    (hv : Value.okWide P w .any b0 t v) (h : DataW.Trod enc P w base (fun _ => true) held t v d p) :
    ∃ xs : List Int, SlI k w v xs ∧ ∀ x ∈ xs, (Lit.int k x).wf = true := by
  obtain ⟨a0, len, cap, rfl⟩ := okWide_slice ht hv
  obtain ⟨fuel, hf⟩ := h
  rcases open_ints ht he hc hf with ⟨hcs, hx⟩ | ⟨a, len', cap', zs, hcs, _, hl, hm, hz, hx, hcell, hwz⟩
  · simp [Value.cells] at hcs
    obtain ⟨rfl, rfl, rfl⟩ := hcs
    exact ⟨[], .inl ⟨none, 0, rfl, rfl, fun _ => rfl, Nat.zero_le _⟩, fun x hx => by cases hx⟩
  · simp [Value.cells] at hcs
    obtain ⟨rfl, rfl, rfl⟩ := hcs
    simp only [if_true] at hz
    by_cases h0 : len = 0
    · subst h0
      exact ⟨[], .inl ⟨some a, cap, rfl, rfl, (fun e => by cases e), hm⟩, (fun x hx => by cases hx)⟩
    · obtain ⟨b, off, spot⟩ := a
      have hspot : spot = none := by simpa [Addr.add] using World.cell?_spot (hcell 0 (by omega))
      subst hspot
      have hlen : (zs.take len).length = len := by simp; omega
      refine ⟨zs.take len, .inr ⟨b, off, cap, by rw [hlen], by omega, by omega, hm, ?_, fun i x hi => ?_⟩, fun x hx => hwz x (List.mem_of_mem_take hx)⟩
      · have := block_lt_of_cell (hcell 0 (by omega))
        simpa [Addr.add] using this
      · have hil : i < len := by
          have := (List.getElem?_eq_some_iff.1 hi).1
          rw [hlen] at this
          exact this
        have hc1 := hcell i (by omega)
        rw [add_plain] at hc1
        rw [hc1]
        rw [List.getElem?_take_of_lt hil] at hi
        simp [List.getD, hi]

end Go.Proofs.YtdgcninmpcmdcaaGreat

/-
  Arguments of a law, opened: slices of bools, arrays of bools, arrays of arrays of integers.
-/
namespace Go.Proofs.YtdgcninmpcmdcaaGreat
open Go.ChangeShapes Go.WideShapes Go.ChangeAt Go.RowKit Go.Deep

/-- The slice v reads in w as the bools kp below kl. -/
def SlB (w : World) (v : Value) (kl : Nat) (kp : Nat → Bool) : Prop := ∃ ao kc, v = .slice ao kl kc ∧ (∀ j, j < kl → ∃ b o, ao = some ⟨b, o, none⟩ ∧ b < w.heap.size ∧ w.cell? ⟨b, o + j, none⟩ = some (.bool (kp j))) ∧ (∀ j, kl ≤ j → kp j = false) ∧ kl ≤ maxLen ∧ kl ≤ kc ∧ kc ≤ maxLen ∧ (ao = none → kc = 0)
theorem open_bl_raw {H : Type} {enc : TypeId × Value → H} {P : Program} {w : World} {base : Nat} {held : Bool} {t e : TypeId} {cs : List Value} {x : DataW H × List MemPlace} {fuel : Nat}
    (ht : P.underlying t = some (.slice e)) (he : P.underlying e = some .bool) (hc : P.cellsOf e = 1) (h : DataW.trod enc P w base (fun _ => true) held fuel t cs = some x) :
    ∃ v kl kp, cs = [v] ∧ SlB w v kl kp := by
  rcases open_bools ht he hc h with ⟨hcs, hx⟩ | ⟨a, len, cap, B, hcs, hb, hl, hm, hx, hcell⟩
  · exact ⟨_, 0, fun _ => false, hcs, none, 0, rfl, (fun j hj => by omega), (fun _ _ => rfl), Nat.zero_le _, Nat.le_refl _, Nat.zero_le _, fun _ => rfl⟩
  · refine ⟨_, len, fun j => if j < len then B j else false, hcs, some a, cap, rfl, fun j hj => ?_, fun j hj => if_neg (by omega), by omega, hl, hm, fun e => by cases e⟩
    obtain ⟨b, off, spot⟩ := a
    have hspot : spot = none := by simpa [Addr.add] using World.cell?_spot (hcell 0 (by omega))
    subst hspot
    have hc1 := hcell j (by omega)
    rw [add_plain] at hc1
    refine ⟨b, off, rfl, ?_, ?_⟩
    · have := block_lt_of_cell hc1
      exact this
    · dsimp only; rw [hc1, if_pos hj]
theorem open_bl {H : Type} {enc : TypeId × Value → H} {P : Program} {w : World} {base : Nat} {held : Bool} {t e : TypeId} {v : Value} {b0 : Nat} {d : DataW H} {p : List MemPlace}
    (ht : P.underlying t = some (.slice e)) (he : P.underlying e = some .bool) (hc : P.cellsOf e = 1) (hv : Value.okWide P w .any b0 t v) (h : DataW.Trod enc P w base (fun _ => true) held t v d p) :
    ∃ kl kp, SlB w v kl kp := by
  obtain ⟨a0, len, cap, rfl⟩ := okWide_slice ht hv
  obtain ⟨fuel, hf⟩ := h
  obtain ⟨v', kl, kp, hcs, hs⟩ := open_bl_raw ht he hc hf
  simp [Value.cells] at hcs
  subst hcs
  exact ⟨kl, kp, hs⟩

/-- An array of bools by value. -/
theorem open_barr {H : Type} {enc : TypeId × Value → H} {P : Program} {w : World} {b0 base : Nat} {spare : Nat → Bool} {held : Bool} {t e : TypeId} {n : Nat} {v : Value} {d : DataW H} {p : List MemPlace}
    (ht : P.underlying t = some (.array n e)) (he : P.underlying e = some .bool) (hc : P.cellsOf e = 1) (hn : P.cellsOf t = n)
    (hv : Value.okWide P w .any b0 t v) (h : DataW.Trod enc P w base spare held t v d p) :
    ∃ xs : List Bool, v = .agg (xs.map Value.bool).toArray ∧ xs.length = n := by
  obtain ⟨cs, rfl, hs⟩ := okWide_arr ht hv
  obtain ⟨fuel, hf⟩ := h
  obtain ⟨ys, m, _, _, hl, hy, hi⟩ := DataW.trod_array ht hf
  have hlen : cs.toList.length = n := by simpa [hn] using hs
  have key : ∀ i (h : i < cs.toList.length), ∃ x, cs.toList[i] = .bool x := by
    intro i hlt
    have h1 := hi i (by omega)
    rw [hc, Nat.mul_one, List.getElem?_eq_getElem (by omega)] at h1
    obtain ⟨x, hx, _⟩ := DataW.trod_bool he h1
    refine ⟨x, ?_⟩
    have h2 : (List.take 1 (List.drop i cs.toList))[0]? = some (Value.bool x) := by
      have : List.take 1 (List.drop i cs.toList) = [Value.bool x] := hx
      rw [this]; rfl
    rw [List.getElem?_take_of_lt (by omega), List.getElem?_drop, Nat.add_zero, List.getElem?_eq_getElem hlt] at h2
    exact Option.some.inj h2
  refine ⟨cs.toList.map fun c => match c with | .bool x => x | _ => false, ?_, by simpa using hlen⟩
  have e1 : (cs.toList.map fun c => match c with | .bool x => x | _ => false).map Value.bool = cs.toList := by
    apply List.ext_getElem (by simp)
    intro i h1 h2
    obtain ⟨x, hx⟩ := key i h2
    simp only [List.getElem_map, hx]
  rw [e1]

/-- The cells of an array of integers, read. -/
theorem trod_ints_array {H : Type} {enc : TypeId × Value → H} {P : Program} {w : World} {base : Nat} {spare : Nat → Bool} {held : Bool} {t e : TypeId} {n : Nat} {k : IntKind} {cs : List Value} {x : DataW H × List MemPlace} {fuel : Nat}
    (ht : P.underlying t = some (.array n e)) (he : P.underlying e = some (.int k)) (hc : P.cellsOf e = 1) (hn : P.cellsOf t = n) (hf : DataW.trod enc P w base spare held fuel t cs = some x) :
    cs.length = n ∧ ∀ i, i < n → ∃ z, cs[i]? = some (.int k z) ∧ (Lit.int k z).wf = true := by
  obtain ⟨ys, m, _, _, hl, hy, hi⟩ := DataW.trod_array ht hf
  refine ⟨by rw [hl, hn], fun i hlt => ?_⟩
  have h1 := hi i hlt
  rw [hc, Nat.mul_one, List.getElem?_eq_getElem (by omega)] at h1
  obtain ⟨z, hz, _, hw⟩ := DataW.trod_int he h1
  refine ⟨z, ?_, hw⟩
  have h2 : (List.take 1 (List.drop i cs))[0]? = some (Value.int k z) := by
    have : List.take 1 (List.drop i cs) = [Value.int k z] := hz
    rw [this]; rfl
  rw [List.getElem?_take_of_lt (by omega), List.getElem?_drop, Nat.add_zero] at h2
  exact h2
/-- An array of arrays of integers by value, flat. -/
theorem open_grid {H : Type} {enc : TypeId × Value → H} {P : Program} {w : World} {b0 base : Nat} {spare : Nat → Bool} {held : Bool} {t r e : TypeId} {m n : Nat} {k : IntKind} {v : Value} {d : DataW H} {p : List MemPlace}
    (ht : P.underlying t = some (.array m r)) (hr : P.underlying r = some (.array n e)) (he : P.underlying e = some (.int k)) (hc : P.cellsOf e = 1) (hn : P.cellsOf r = n) (hm : P.cellsOf t = m * n) (hn0 : 0 < n)
    (hv : Value.okWide P w .any b0 t v) (h : DataW.Trod enc P w base spare held t v d p) :
    ∃ xs : List Int, v = .agg (xs.map (Value.int k)).toArray ∧ xs.length = m * n ∧ ∀ x ∈ xs, (Lit.int k x).wf = true := by
  obtain ⟨cs, rfl, hs⟩ := okWide_arr ht hv
  obtain ⟨fuel, hf⟩ := h
  obtain ⟨ys, fu, _, _, hl, hy, hi⟩ := DataW.trod_array ht hf
  have hlen : cs.toList.length = m * n := by simpa [hm] using hs
  have key : ∀ i (h : i < cs.toList.length), ∃ x, cs.toList[i] = .int k x ∧ (Lit.int k x).wf = true := by
    intro i hlt
    have hq : i / n < m := by
      rw [Nat.div_lt_iff_lt_mul hn0]
      omega
    have h1 := hi (i / n) hq
    rw [hn, List.getElem?_eq_getElem (by omega)] at h1
    obtain ⟨_, h3⟩ := trod_ints_array hr he hc hn h1
    obtain ⟨z, hz, hw⟩ := h3 (i % n) (Nat.mod_lt _ hn0)
    refine ⟨z, ?_, hw⟩
    have h2 : (List.take n (List.drop (i / n * n) cs.toList))[i % n]? = some (Value.int k z) := hz
    rw [List.getElem?_take_of_lt (Nat.mod_lt _ hn0), List.getElem?_drop, Nat.mul_comm, Nat.div_add_mod, List.getElem?_eq_getElem hlt] at h2
    exact Option.some.inj h2
  refine ⟨cs.toList.map fun c => match c with | .int _ x => x | _ => 0, ?_, by simpa using hlen, ?_⟩
  · have e1 : (cs.toList.map fun c => match c with | .int _ x => x | _ => 0).map (Value.int k) = cs.toList := by
      apply List.ext_getElem (by simp)
      intro i h1 h2
      obtain ⟨x, hx, _⟩ := key i h2
      simp only [List.getElem_map, hx]
    rw [e1]
  · intro x hx
    obtain ⟨c, hc1, hc2⟩ := List.mem_map.1 hx
    obtain ⟨i, hi1, hi2⟩ := List.getElem_of_mem hc1
    obtain ⟨y, hy1, hy2⟩ := key i hi1
    rw [← hc2, ← hi2, hy1]
    exact hy2

end Go.Proofs.YtdgcninmpcmdcaaGreat

/-
  An array of strings by value, opened.
-/
namespace Go.Proofs.YtdgcninmpcmdcaaGreat
open Go.RowKit

/-- An array of strings by value. -/
theorem open_sarr {H : Type} {enc : TypeId × Value → H} {P : Program} {w : World} {b0 base : Nat} {spare : Nat → Bool} {held : Bool} {t e : TypeId} {n : Nat} {v : Value} {d : DataW H} {p : List MemPlace}
    (ht : P.underlying t = some (.array n e)) (he : P.underlying e = some .string) (hc : P.cellsOf e = 1) (hn : P.cellsOf t = n)
    (hv : Value.okWide P w .any b0 t v) (h : DataW.Trod enc P w base spare held t v d p) :
    ∃ xs : List ByteArray, v = .agg (xs.map Value.string).toArray ∧ xs.length = n ∧ ∀ s ∈ xs, s.size ≤ maxLen := by
  obtain ⟨cs, rfl, hs⟩ := okWide_arr ht hv
  obtain ⟨fuel, hf⟩ := h
  obtain ⟨ys, m, _, _, hl, hy, hi⟩ := DataW.trod_array ht hf
  have hlen : cs.toList.length = n := by simpa [hn] using hs
  have key : ∀ i (h : i < cs.toList.length), ∃ x : ByteArray, cs.toList[i] = .string x ∧ x.size ≤ maxLen := by
    intro i hlt
    have h1 := hi i (by omega)
    rw [hc, Nat.mul_one, List.getElem?_eq_getElem (by omega)] at h1
    obtain ⟨x, hx, _, hxs⟩ := DataW.trod_string he h1
    refine ⟨x, ?_, hxs⟩
    have h2 : (List.take 1 (List.drop i cs.toList))[0]? = some (Value.string x) := by
      have : List.take 1 (List.drop i cs.toList) = [Value.string x] := hx
      rw [this]; rfl
    rw [List.getElem?_take_of_lt (by omega), List.getElem?_drop, Nat.add_zero, List.getElem?_eq_getElem hlt] at h2
    exact Option.some.inj h2
  refine ⟨cs.toList.map fun c => match c with | .string x => x | _ => ⟨#[]⟩, ?_, by simpa using hlen, ?_⟩
  · have e1 : (cs.toList.map fun c => match c with | .string x => x | _ => ⟨#[]⟩).map Value.string = cs.toList := by
      apply List.ext_getElem (by simp)
      intro i h1 h2
      obtain ⟨x, hx, _⟩ := key i h2
      simp only [List.getElem_map, hx]
    rw [e1]
  · intro s hs
    obtain ⟨i, hi2, rfl⟩ := List.getElem_of_mem hs
    have h2 : i < cs.toList.length := by simpa using hi2
    obtain ⟨x, hx, hxs⟩ := key i h2
    simp only [List.getElem_map, hx]
    exact hxs

theorem weights_all_mem {H : Type} {P : Program} {e : TypeId} : ∀ {ds : List (DataW H)} {d : DataW H}, d ∈ ds → ∀ n ∈ d.weights P e, n ∈ DataW.weightsAll P e ds
  | d0 :: ds, d, hd, n, hn => by
    simp only [DataW.weightsAll, List.mem_append]
    rcases List.mem_cons.1 hd with rfl | hd
    · exact .inl hn
    · exact .inr (weights_all_mem hd n hn)
/-- An array of strings by value, of a size that a machine can hold. -/
theorem open_sarrR {H : Type} {enc : TypeId × Value → H} {P : Program} {w : World} {b0 base : Nat} {spare : Nat → Bool} {held : Bool} {t e : TypeId} {n : Nat} {v : Value} {d : DataW H} {p : List MemPlace} {ts : List TypeId} {ds : List (DataW H)} {j : Nat}
    (ht : P.underlying t = some (.array n e)) (he : P.underlying e = some .string) (hc : P.cellsOf e = 1) (hn : P.cellsOf t = n)
    (hv : Value.okWide P w .any b0 t v) (h : DataW.Trod enc P w base spare held t v d p)
    (hsz : (DataW.weightsEach P ts ds).all (· ≤ reachBytes) = true) (hjt : ts[j]? = some t) (hjd : ds[j]? = some d) :
    ∃ xs : List ByteArray, v = .agg (xs.map Value.string).toArray ∧ xs.length = n ∧ ∀ s ∈ xs, s.size ≤ maxLen ∧ s.size ≤ reachBytes := by
  obtain ⟨xs, h1, h2, h3⟩ := open_sarr ht he hc hn hv h
  refine ⟨xs, h1, h2, fun s hs => ⟨h3 s hs, ?_⟩⟩
  obtain ⟨fuel, hf⟩ := h
  rw [h1] at hf
  obtain ⟨ys, m, _, hy0, hl, hy, hi⟩ := DataW.trod_array ht hf
  obtain ⟨i, hi2, rfl⟩ := List.getElem_of_mem hs
  have k1 := hi i (by omega)
  rw [hc, Nat.mul_one, List.getElem?_eq_getElem (by omega)] at k1
  obtain ⟨x, hx, hx2, _⟩ := DataW.trod_string he k1
  have h4 : x = xs[i] := by
    have : (List.take 1 (List.drop i (Value.agg (xs.map Value.string).toArray).cells.toList))[0]? = some (Value.string x) := by rw [hx]; rfl
    simp [Value.cells] at this
    have h5 := List.getElem?_eq_getElem (l := xs) (i := i) hi2
    rw [h5] at this
    simpa using this.symm
  rw [← h4]
  have hd : d = .agg (ys.map (·.1)) := (Prod.mk.inj hy0).1
  have hm : DataW.lit (.string x.data.toList) ∈ ys.map (·.1) := by
    rw [List.mem_map]
    exact ⟨ys[i]'(by omega), List.getElem_mem _, by rw [hx2]⟩
  have := List.all_eq_true.1 hsz _ (DataW.weights_mem_each hjt hjd x.data.toList.length (by
    rw [hd]
    simp only [DataW.weights, ht]
    exact weights_all_mem hm _ (by simp [DataW.weights])))
  simpa using this

end Go.Proofs.YtdgcninmpcmdcaaGreat
