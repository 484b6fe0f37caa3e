/-
  PjAc: Pm, PmB, PmC.
-/
import Derived.Test.YtjbhallhmnahbaaGreatPjAb

set_option linter.unusedVariables false

/-
  A device of package pm as a function of words and lines; its simple calls.
-/
namespace Go.Proofs.YtjbhallhmnahbaaGreat
open Go.RowKit

/-! ### Rows as functions -/
def rowOf (g : Nat → Value) (n : Nat) : Array Value := (Array.range n).map g
theorem rowOf_get (g : Nat → Value) (n i : Nat) (h : i < n) : (rowOf g n)[i]? = some (g i) := by
  unfold rowOf
  rw [Array.getElem?_map, Array.getElem?_range]
  simp [h]
theorem rowOf_set (g : Nat → Value) (n i : Nat) (v : Value) : (rowOf g n).setIfInBounds i v = rowOf (fun j => if j = i then v else g j) n := by
  apply Array.ext
  · simp [rowOf]
  · intro j h1 h2
    have hj : j < n := by simpa [rowOf] using h2
    rw [Array.getElem_setIfInBounds (by simpa [rowOf] using hj)]
    by_cases e : i = j
    · subst e; simp [rowOf]
    · rw [if_neg e]
      have e2 : ¬ j = i := fun q => e q.symm
      simp [rowOf, e2]
theorem rowOf_congr {g g' : Nat → Value} {n : Nat} (h : ∀ i, i < n → g i = g' i) : rowOf g n = rowOf g' n := by
  apply Array.ext
  · simp [rowOf]
  · intro j h1 h2
    have hj : j < n := by simpa [rowOf] using h2
    simp [rowOf, h j hj]
theorem rowOf_made (v : Value) (hv : Value.cells v = #[v]) (n : Nat) : (madeCells (Value.cells v) (n * 1)).toList.toArray = rowOf (fun _ => v) n := by
  rw [made_one v hv]
  apply Array.ext
  · simp [rowOf]
  · intro i h1 h2
    simp [rowOf]

/-! ### The state -/
structure DevS where
  n : Nat
  med : Nat → Nat
  buf : Int → Option (Nat × Bool)
  wear : Nat → Int
  bad : Nat → Bool
  fuse : Int
  off : Bool
  cnt : Nat

def cellVal (p : Nat × Bool) : Value := .agg #[.int .u64 (p.1 : Int), .bool p.2]
def cellEnc (p : Nat × Bool) : DataW Unit := .agg [.lit (.int .u64 (p.1 : Int)), .lit (.bool p.2)]
def cellR : Value → Option (DataW Unit × List MemPlace)
  | .agg cs => match cs.toList with
    | [.int .u64 (.ofNat v), .bool f] => some (cellEnc (v, f), [])
    | _ => none
  | _ => none
theorem cellR_mk (p : Nat × Bool) : cellR (cellVal p) = some (cellEnc p, []) := rfl
theorem cellR_inv (v : Value) (y : DataW Unit × List MemPlace) (h : cellR v = some y) : ∃ a, v = cellVal a ∧ y = (cellEnc a, []) := by
  unfold cellR at h
  split at h
  · rename_i cs
    split at h
    · rename_i v f hl
      cases h
      refine ⟨(v, f), ?_, rfl⟩
      unfold cellVal
      congr 1
      apply Array.ext'
      exact hl
    · cases h
  · cases h
noncomputable def cellE : EltLaw Tryz.prog 144 (Nat × Bool) where
  val := cellVal
  enc := cellEnc
  R := cellR
  R_mk := cellR_mk
  R_inv := cellR_inv
  enc_inj := by
    intro a b h
    unfold cellEnc at h
    obtain ⟨a1, a2⟩ := a
    obtain ⟨b1, b2⟩ := b
    simp at h
    have h1 : a1 = b1 := by have := h.1; omega
    rw [h1, h.2]
  zero := (0, false)
  zero_run := fun _ => by kernel_rfl

/-- The blocks of a device. -/
structure DevA where
  bd : Nat
  bm : Nat
  bb : Nat
  bw : Nat
  bg : Nat
def DevA.all (a : DevA) : List Nat := [a.bd, a.bm, a.bb, a.bw, a.bg]
def headOf (a : DevA) (D : DevS) : Array Value :=
  #[.slice (some ⟨a.bm, 0, none⟩) (8 * D.n) (8 * D.n), .map (some a.bb), .slice (some ⟨a.bw, 0, none⟩) D.n D.n, .slice (some ⟨a.bg, 0, none⟩) D.n D.n, .int .i64 D.fuse, .bool D.off, .int .i64 (D.cnt : Int)]
/-- What a state keeps to. -/
structure DevOk (D : DevS) : Prop where
  lo : 1 ≤ D.n
  hi : D.n ≤ 8192
  sup : ∀ z, D.buf z ≠ none → 0 ≤ z ∧ z < 8 * D.n
  medB : ∀ i, D.med i < 18446744073709551616
  bufB : ∀ z p, D.buf z = some p → p.1 < 18446744073709551616
  fu : 0 ≤ D.fuse ∧ D.fuse ≤ 9223372036854775807
/-- A device in memory. -/
structure DevIs (W : World) (a : DevA) (D : DevS) : Prop where
  head : Holds W a.bd (headOf a D) 102
  med : Holds W a.bm (rowOf (fun i => .int .u64 (D.med i : Int)) (8 * D.n)) 22
  wear : Holds W a.bw (rowOf (fun i => .int .i64 (D.wear i)) D.n) 3
  bad : Holds W a.bg (rowOf (fun i => .bool (D.bad i)) D.n) 4
  buf : MapZ cellE 3 W a.bb D.cnt D.buf
  nd : a.all.Nodup
  ok : DevOk D

section
variable {W W' : World} {a : DevA} {D : DevS}
theorem DevIs.gr {bs : List Nat} (h : DevIs W a D) (g : Gr bs W W') (hn : ∀ b ∈ a.all, b ∉ bs) : DevIs W' a D :=
  ⟨h.head.gr g (hn _ (by simp [DevA.all])), h.med.gr g (hn _ (by simp [DevA.all])), h.wear.gr g (hn _ (by simp [DevA.all])), h.bad.gr g (hn _ (by simp [DevA.all])), h.buf.gr g (hn _ (by simp [DevA.all])), h.nd, h.ok⟩
theorem DevIs.gr0 (h : DevIs W a D) (g : Gr [] W W') : DevIs W' a D := h.gr g (by simp)
theorem DevIs.lt (h : DevIs W a D) : ∀ b ∈ a.all, b < W.heap.size := by
  intro b hb
  simp only [DevA.all, List.mem_cons, List.not_mem_nil, or_false] at hb
  rcases hb with rfl | rfl | rfl | rfl | rfl
  · exact h.head.lt
  · exact h.med.lt
  · exact h.buf.lt
  · exact h.wear.lt
  · exact h.bad.lt
theorem DevIs.c0 (h : DevIs W a D) : W.cell? ⟨a.bd, 0, none⟩ = some (.slice (some ⟨a.bm, 0, none⟩) (8 * D.n) (8 * D.n)) := h.head.cell 0
theorem DevIs.c1 (h : DevIs W a D) : W.cell? ⟨a.bd, 1, none⟩ = some (.map (some a.bb)) := h.head.cell 1
theorem DevIs.c2 (h : DevIs W a D) : W.cell? ⟨a.bd, 2, none⟩ = some (.slice (some ⟨a.bw, 0, none⟩) D.n D.n) := h.head.cell 2
theorem DevIs.c3 (h : DevIs W a D) : W.cell? ⟨a.bd, 3, none⟩ = some (.slice (some ⟨a.bg, 0, none⟩) D.n D.n) := h.head.cell 3
theorem DevIs.c4 (h : DevIs W a D) : W.cell? ⟨a.bd, 4, none⟩ = some (.int .i64 D.fuse) := h.head.cell 4
theorem DevIs.c5 (h : DevIs W a D) : W.cell? ⟨a.bd, 5, none⟩ = some (.bool D.off) := h.head.cell 5
theorem DevIs.c6 (h : DevIs W a D) : W.cell? ⟨a.bd, 6, none⟩ = some (.int .i64 (D.cnt : Int)) := h.head.cell 6
theorem DevIs.fr (h : DevIs W a D) (i : Nat) : W.frozen? ⟨a.bd, i, none⟩ = false := h.head.frozen i
theorem DevIs.medAt (h : DevIs W a D) {i : Nat} (hi : i < 8 * D.n) : W.cell? ⟨a.bm, i, none⟩ = some (.int .u64 (D.med i : Int)) := by rw [h.med.cell, rowOf_get _ _ _ hi]
theorem DevIs.wearAt (h : DevIs W a D) {i : Nat} (hi : i < D.n) : W.cell? ⟨a.bw, i, none⟩ = some (.int .i64 (D.wear i)) := by rw [h.wear.cell, rowOf_get _ _ _ hi]
theorem DevIs.badAt (h : DevIs W a D) {i : Nat} (hi : i < D.n) : W.cell? ⟨a.bg, i, none⟩ = some (.bool (D.bad i)) := by rw [h.bad.cell, rowOf_get _ _ _ hi]
end

/-! ### Calls that only read -/
section
variable (a : DevA) (D : DevS) (w : World) (h : DevIs w a D)
include h
theorem lines_any : Calls Tryz.prog 43 #[.pointer (some ⟨a.bd, 0, none⟩)] w fun e w' => e = .returned (.int .i64 D.n) ∧ w = w' := by
  have c2 := h.c2
  go_enter Tryz.func43, Tryz.ntmps43
  go_wp2
  go_ret
  exact ⟨rfl, rfl⟩
theorem hasWord_any (z : Int) : Calls Tryz.prog 149 #[.pointer (some ⟨a.bd, 0, none⟩), .int .i64 z] w fun e w' => e = .returned (.bool (decide (0 ≤ z ∧ z < 8 * D.n))) ∧ w = w' := by
  have H := Lib.hid (lines_any a D w h)
  have hn := h.ok.hi
  generalize D.n = n at *
  clear h
  by_cases h0 : 0 ≤ z
  · have hd : decide (0 ≤ z) = true := by simpa using h0
    by_cases h1 : z < 8 * n
    · have hd2 : decide (z < (n : Int) * 8) = true := by simp; omega
      rw [decide_eq_true (show 0 ≤ z ∧ z < 8 * n from ⟨h0, h1⟩)]
      go_enter Tryz.func149, Tryz.ntmps149
      go_wp2_with (refine H.out.mono ?_; rintro e w' ⟨rfl, rfl⟩)
      go_ret
      exact ⟨rfl, rfl⟩
    · have hd2 : decide (z < (n : Int) * 8) = false := by simp; omega
      rw [decide_eq_false (show ¬ (0 ≤ z ∧ z < 8 * n) from fun q => h1 q.2)]
      go_enter Tryz.func149, Tryz.ntmps149
      go_wp2_with (refine H.out.mono ?_; rintro e w' ⟨rfl, rfl⟩)
      go_ret
      exact ⟨rfl, rfl⟩
  · have hd : decide (0 ≤ z) = false := by simpa using h0
    rw [decide_eq_false (show ¬ (0 ≤ z ∧ z < 8 * n) from fun q => h0 q.1)]
    go_enter Tryz.func149, Tryz.ntmps149
    go_wp2_with (refine H.out.mono ?_; rintro e w' ⟨rfl, rfl⟩)
    go_ret
    exact ⟨rfl, rfl⟩
theorem hasLine_any (z : Int) : Calls Tryz.prog 69 #[.pointer (some ⟨a.bd, 0, none⟩), .int .i64 z] w fun e w' => e = .returned (.bool (decide (0 ≤ z ∧ z < D.n))) ∧ w = w' := by
  have H := Lib.hid (lines_any a D w h)
  generalize D.n = n at *
  clear h
  by_cases h0 : 0 ≤ z
  · have hd : decide (0 ≤ z) = true := by simpa using h0
    by_cases h1 : z < n
    · have hd2 : decide (z < (n : Int)) = true := by simp; omega
      rw [decide_eq_true (show 0 ≤ z ∧ z < n from ⟨h0, h1⟩)]
      go_enter Tryz.func69, Tryz.ntmps69
      go_wp2_with (refine H.out.mono ?_; rintro e w' ⟨rfl, rfl⟩)
      go_ret
      exact ⟨rfl, rfl⟩
    · have hd2 : decide (z < (n : Int)) = false := by simp; omega
      rw [decide_eq_false (show ¬ (0 ≤ z ∧ z < n) from fun q => h1 q.2)]
      go_enter Tryz.func69, Tryz.ntmps69
      go_wp2_with (refine H.out.mono ?_; rintro e w' ⟨rfl, rfl⟩)
      go_ret
      exact ⟨rfl, rfl⟩
  · have hd : decide (0 ≤ z) = false := by simpa using h0
    rw [decide_eq_false (show ¬ (0 ≤ z ∧ z < n) from fun q => h0 q.1)]
    go_enter Tryz.func69, Tryz.ntmps69
    go_wp2_with (refine H.out.mono ?_; rintro e w' ⟨rfl, rfl⟩)
    go_ret
    exact ⟨rfl, rfl⟩
end

end Go.Proofs.YtjbhallhmnahbaaGreat

/-
  Calls of package pm that only read, and those that write one field or cell.
-/
namespace Go.Proofs.YtjbhallhmnahbaaGreat
open Go.RowKit

theorem lines_nil (w : World) : Calls Tryz.prog 43 #[.pointer none] w fun e w' => e = .returned (.int .i64 0) ∧ w = w' := by
  go_enter Tryz.func43, Tryz.ntmps43
  go_wp2
  go_ret
  exact ⟨rfl, rfl⟩
theorem hasWord_nil (z : Int) (w : World) : Calls Tryz.prog 149 #[.pointer none, .int .i64 z] w fun e w' => e = .returned (.bool false) ∧ w = w' := by
  by_cases h0 : 0 ≤ z
  · have hd : decide (0 ≤ z) = true := by simpa using h0
    have hd2 : decide (z < 0) = false := by simp; omega
    go_enter Tryz.func149, Tryz.ntmps149
    go_wp2_with (refine (lines_nil _).mono ?_; rintro e w' ⟨rfl, rfl⟩)
    go_ret
    exact ⟨rfl, rfl⟩
  · have hd : decide (0 ≤ z) = false := by simpa using h0
    go_enter Tryz.func149, Tryz.ntmps149
    go_wp2_with (refine (lines_nil _).mono ?_; rintro e w' ⟨rfl, rfl⟩)
    go_ret
    exact ⟨rfl, rfl⟩
def reachE (D : DevS) (there : Bool) : Int := if D.off then 6 else if there then 0 else 3
theorem reach_nil (there : Bool) (w : World) : Calls Tryz.prog 131 #[.pointer none, .bool there] w fun e w' => e = .returned (.int .i64 1) ∧ w = w' := by
  go_enter Tryz.func131, Tryz.ntmps131
  go_wp2
  go_ret
  exact ⟨rfl, rfl⟩
theorem reach_any (a : DevA) (D : DevS) (there : Bool) (w : World) (h : DevIs w a D) : Calls Tryz.prog 131 #[.pointer (some ⟨a.bd, 0, none⟩), .bool there] w fun e w' => e = .returned (.int .i64 (reachE D there)) ∧ w = w' := by
  have c5 := h.c5
  clear h
  unfold reachE
  obtain ⟨off, hoff⟩ : ∃ o, D.off = o := ⟨_, rfl⟩
  rw [hoff] at c5 ⊢
  clear hoff
  cases off with
  | true =>
    go_enter Tryz.func131, Tryz.ntmps131
    go_wp2
    go_ret
    exact ⟨rfl, rfl⟩
  | false =>
    cases there with
    | true =>
      go_enter Tryz.func131, Tryz.ntmps131
      go_wp2
      go_ret
      exact ⟨rfl, rfl⟩
    | false =>
      go_enter Tryz.func131, Tryz.ntmps131
      go_wp2
      go_ret
      exact ⟨rfl, rfl⟩

theorem media_in (a : DevA) (D : DevS) (i : Nat) (w : World) (h : DevIs w a D) (hi : i < 8 * D.n) : Calls Tryz.prog 98 #[.pointer (some ⟨a.bd, 0, none⟩), .int .i64 i] w fun e w' => e = .returned (.int .u64 (D.med i : Int)) ∧ w = w' := by
  have hh := hasWord_any a D w h i
  have hn := h.ok.hi
  have c0 := h.c0
  have m := h.medAt hi
  rw [decide_eq_true (by omega)] at hh
  have H := Lib.hid hh
  clear hh h
  generalize D.n = n at *
  go_enter Tryz.func98, Tryz.ntmps98
  go_wp2_with (refine H.out.mono ?_; rintro e w' ⟨rfl, rfl⟩)
  go_ret
  exact ⟨rfl, rfl⟩
theorem count_any (a : DevA) (D : DevS) (w : World) (h : DevIs w a D) : Calls Tryz.prog 38 #[.pointer (some ⟨a.bd, 0, none⟩)] w fun e w' => e = .returned (.int .i64 (D.cnt : Int)) ∧ w = w' := by
  have c := h.c6
  clear h
  go_enter Tryz.func38, Tryz.ntmps38
  go_wp2
  go_ret
  exact ⟨rfl, rfl⟩
/-! ### A field or a cell is written -/
section
variable {W : World} {a : DevA} {D : DevS}
theorem nd5 {a : DevA} (h : a.all.Nodup) : a.bd ≠ a.bm ∧ a.bd ≠ a.bb ∧ a.bd ≠ a.bw ∧ a.bd ≠ a.bg ∧ a.bm ≠ a.bb ∧ a.bm ≠ a.bw ∧ a.bm ≠ a.bg ∧ a.bb ≠ a.bw ∧ a.bb ≠ a.bg ∧ a.bw ≠ a.bg := by
  simp only [DevA.all, List.nodup_cons, List.mem_cons, List.not_mem_nil, or_false, not_or, List.nodup_nil, and_true, not_false_eq_true] at h
  obtain ⟨⟨h1, h2, h3, h4⟩, ⟨h5, h6, h7⟩, ⟨h8, h9⟩, h10⟩ := h
  exact ⟨h1, h2, h3, h4, h5, h6, h7, h8, h9, h10⟩
theorem grSet (W : World) (b i : Nat) (v : Value) : Gr [b] W (W.setCell ⟨b, i, none⟩ v) := (Gr.refl _ _).setCell (p := ⟨b, i, none⟩) (.inl (by simp)) _
theorem DevIs.setFuse (h : DevIs W a D) (x : Int) (h0 : 0 ≤ x) (h1 : x ≤ 9223372036854775807) : DevIs (W.setCell ⟨a.bd, 4, none⟩ (.int .i64 x)) a { D with fuse := x } := by
  obtain ⟨n1, n2, n3, n4, _⟩ := nd5 h.nd
  have g := grSet W a.bd 4 (.int .i64 x)
  exact ⟨h.head.set 4 _, h.med.gr g (by simpa using n1.symm), h.wear.gr g (by simpa using n3.symm), h.bad.gr g (by simpa using n4.symm), h.buf.gr g (by simpa using n2.symm), h.nd, ⟨h.ok.lo, h.ok.hi, h.ok.sup, h.ok.medB, h.ok.bufB, h0, h1⟩⟩
theorem DevIs.setOff (h : DevIs W a D) (x : Bool) : DevIs (W.setCell ⟨a.bd, 5, none⟩ (.bool x)) a { D with off := x } := by
  obtain ⟨n1, n2, n3, n4, _⟩ := nd5 h.nd
  have g := grSet W a.bd 5 (.bool x)
  exact ⟨h.head.set 5 _, h.med.gr g (by simpa using n1.symm), h.wear.gr g (by simpa using n3.symm), h.bad.gr g (by simpa using n4.symm), h.buf.gr g (by simpa using n2.symm), h.nd, ⟨h.ok.lo, h.ok.hi, h.ok.sup, h.ok.medB, h.ok.bufB, h.ok.fu⟩⟩
theorem DevIs.setCnt (h : DevIs W a D) (x : Nat) (hx : D.cnt ≤ x) : DevIs (W.setCell ⟨a.bd, 6, none⟩ (.int .i64 (x : Int))) a { D with cnt := x } := by
  obtain ⟨n1, n2, n3, n4, _⟩ := nd5 h.nd
  have g := grSet W a.bd 6 (.int .i64 (x : Int))
  exact ⟨h.head.set 6 _, h.med.gr g (by simpa using n1.symm), h.wear.gr g (by simpa using n3.symm), h.bad.gr g (by simpa using n4.symm), (h.buf.gr g (by simpa using n2.symm)).mono hx, h.nd, ⟨h.ok.lo, h.ok.hi, h.ok.sup, h.ok.medB, h.ok.bufB, h.ok.fu⟩⟩
theorem DevIs.setMed (h : DevIs W a D) (i : Nat) (x : Nat) (hx : x < 18446744073709551616) : DevIs (W.setCell ⟨a.bm, i, none⟩ (.int .u64 (x : Int))) a { D with med := fun j => if j = i then x else D.med j } := by
  obtain ⟨n1, _, _, _, n5, n6, n7, _⟩ := nd5 h.nd
  have g := grSet W a.bm i (.int .u64 (x : Int))
  have r := h.med.set i (.int .u64 (x : Int))
  rw [rowOf_set] at r
  refine ⟨h.head.gr g (by simpa using n1), ?_, h.wear.gr g (by simpa using n6.symm), h.bad.gr g (by simpa using n7.symm), h.buf.gr g (by simpa using n5.symm), h.nd, ⟨h.ok.lo, h.ok.hi, h.ok.sup, ?_, h.ok.bufB, h.ok.fu⟩⟩
  · have e : (fun j => if j = i then Value.int IntKind.u64 (x : Int) else Value.int IntKind.u64 (D.med j : Int)) = fun j => Value.int IntKind.u64 ((if j = i then x else D.med j : Nat) : Int) := by funext j; split <;> rfl
    rw [e] at r
    exact r
  · intro j
    show (if j = i then x else D.med j) < _
    split
    · exact hx
    · exact h.ok.medB j
theorem DevIs.setWear (h : DevIs W a D) (i : Nat) (x : Int) : DevIs (W.setCell ⟨a.bw, i, none⟩ (.int .i64 x)) a { D with wear := fun j => if j = i then x else D.wear j } := by
  obtain ⟨_, _, n3, _, _, n6, _, n8, _, n10⟩ := nd5 h.nd
  have g := grSet W a.bw i (.int .i64 x)
  have r := h.wear.set i (.int .i64 x)
  rw [rowOf_set] at r
  refine ⟨h.head.gr g (by simpa using n3), h.med.gr g (by simpa using n6), ?_, h.bad.gr g (by simpa using n10.symm), h.buf.gr g (by simpa using n8), h.nd, ⟨h.ok.lo, h.ok.hi, h.ok.sup, h.ok.medB, h.ok.bufB, h.ok.fu⟩⟩
  have e : (fun j => if j = i then Value.int IntKind.i64 x else Value.int IntKind.i64 (D.wear j)) = fun j => Value.int IntKind.i64 (if j = i then x else D.wear j) := by funext j; split <;> rfl
  rw [e] at r
  exact r
theorem DevIs.setBuf {W' : World} {f : Int → Option (Nat × Bool)} (h : DevIs W a D) (m : MapZ cellE 3 W' a.bb D.cnt f) (g : Gr [a.bb] W W') (hs : ∀ z, f z ≠ none → 0 ≤ z ∧ z < 8 * D.n) (hb : ∀ z p, f z = some p → p.1 < 18446744073709551616) : DevIs W' a { D with buf := f } := by
  obtain ⟨_, n2, _, _, n5, _, _, n8, n9, _⟩ := nd5 h.nd
  exact ⟨h.head.gr g (by simpa using n2), h.med.gr g (by simpa using n5), h.wear.gr g (by simpa using n8.symm), h.bad.gr g (by simpa using n9.symm), m, h.nd, ⟨h.ok.lo, h.ok.hi, hs, h.ok.medB, hb, h.ok.fu⟩⟩
end

end Go.Proofs.YtjbhallhmnahbaaGreat

/-
  pm.Load; pm.New.
-/
namespace Go.Proofs.YtjbhallhmnahbaaGreat
open Go.RowKit

theorem undInt : Tryz.prog.underlying 3 = some (.int .i64) := Tryz.underlying3
/-- What a word reads as. -/
def loadV (D : DevS) (i : Nat) : Nat := match D.buf i with | some p => p.1 | none => D.med i

theorem load_nil (z : Int) (w : World) : Calls Tryz.prog 106 #[.pointer none, .int .i64 z] w fun e w' => e = .returned (.tuple #[.int .u64 0, .int .i64 1]) ∧ w = w' := by
  go_enter Tryz.func106, Tryz.ntmps106
  go_wp2_with fail
  refine (hasWord_nil z _).mono ?_
  rintro e w' ⟨rfl, rfl⟩
  go_wp2_with fail
  refine (reach_nil false _).mono ?_
  rintro e w' ⟨rfl, rfl⟩
  go_wp2_with fail
  go_ret2
  exact ⟨rfl, rfl⟩
theorem load_err (a : DevA) (D : DevS) (z : Int) (w : World) (h : DevIs w a D) (he : reachE D (decide (0 ≤ z ∧ z < 8 * D.n)) ≠ 0) :
    Calls Tryz.prog 106 #[.pointer (some ⟨a.bd, 0, none⟩), .int .i64 z] w fun e w' => e = .returned (.tuple #[.int .u64 0, .int .i64 (reachE D (decide (0 ≤ z ∧ z < 8 * D.n)))]) ∧ w = w' := by
  have H1 := Lib.hid (hasWord_any a D w h z)
  have H2 := Lib.hid (fun t => reach_any a D t w h)
  generalize decide (0 ≤ z ∧ z < 8 * D.n) = t at *
  have HR := H2.out t
  obtain ⟨e0, he0⟩ : ∃ e0, reachE D t = e0 := ⟨_, rfl⟩
  rw [he0] at he HR ⊢
  have H3 := Lib.hid HR
  have hd : (e0 == 0) = false := by simpa using he
  clear HR h he0 H2
  go_enter Tryz.func106, Tryz.ntmps106
  go_wp2_with fail
  refine H1.out.mono ?_
  rintro e w' ⟨rfl, rfl⟩
  go_wp2_with fail
  refine H3.out.mono ?_
  rintro e w' ⟨rfl, rfl⟩
  go_wp2_with fail
  go_ret2
  exact ⟨rfl, rfl⟩
set_option maxHeartbeats 1000000 in
theorem load_ok (a : DevA) (D : DevS) (i : Nat) (w : World) (h : DevIs w a D) (hoff : D.off = false) (hi : i < 8 * D.n) :
    Calls Tryz.prog 106 #[.pointer (some ⟨a.bd, 0, none⟩), .int .i64 i] w fun e w' => e = .returned (.tuple #[.int .u64 (loadV D i : Int), .int .i64 0]) ∧ Gr [] w w' := by
  have H1 := Lib.hid (hasWord_any a D w h i)
  have hr := reach_any a D (decide (0 ≤ (i : Int) ∧ (i : Int) < 8 * D.n)) w h
  have e0 : reachE D (decide (0 ≤ (i : Int) ∧ (i : Int) < 8 * D.n)) = 0 := by
    unfold reachE
    rw [hoff, decide_eq_true (by omega)]
    rfl
  rw [e0] at hr
  have H2 := Lib.hid hr
  clear hr e0
  have c0 := h.c0
  have c1 := h.c1
  have hm := h.medAt hi
  have hn := h.ok.hi
  have hlt : a.bd < w.heap.size := h.lt _ (by simp [DevA.all])
  have hlt2 : a.bm < w.heap.size := h.lt _ (by simp [DevA.all])
  have HB := Lib.hid h.buf
  have hwz : WfZ (i : Int) := wfZ (by omega) (by omega)
  have HW := Lib.hid hwz
  clear h hwz hoff
  generalize decide (0 ≤ (i : Int) ∧ (i : Int) < 8 * D.n) = t at *
  obtain ⟨n, hn'⟩ : ∃ n, D.n = n := ⟨_, rfl⟩
  rw [hn'] at c0 hi hn
  clear hn'
  cases hb : D.buf (i : Int) with
  | some p =>
    obtain ⟨v, f⟩ := p
    have HL := Lib.hid (show loadV D i = v by unfold loadV; rw [hb])
    have HV := Lib.hid (show Value.tuple #[cellE.val ((D.buf (i : Int)).getD cellE.zero), .bool (D.buf (i : Int)).isSome] = .tuple #[.agg #[.int .u64 (v : Int), .bool f], .bool true] by rw [hb]; rfl)
    clear hb
    go_enter Tryz.func106, Tryz.ntmps106
    go_wp2_with fail
    refine H1.out.mono ?_
    rintro e w' ⟨rfl, rfl⟩
    go_wp2_with fail
    refine H2.out.mono ?_
    rintro e w' ⟨rfl, rfl⟩
    go_wp2_with (at_lookup; refine wp_lookZ_oks rfl _ _ rfl rfl HB.out undInt Tryz.underlying100 (i : Int) rfl HW.out _ HV.out ?_)
    go_ret2
    exact ⟨by rw [HL.out] <;> rfl, (Gr.refl _ _).alloc _⟩
  | none =>
    have HL := Lib.hid (show loadV D i = D.med i by unfold loadV; rw [hb])
    have HV := Lib.hid (show Value.tuple #[cellE.val ((D.buf (i : Int)).getD cellE.zero), .bool (D.buf (i : Int)).isSome] = .tuple #[.agg #[.int .u64 0, .bool false], .bool false] by rw [hb]; rfl)
    clear hb
    go_enter Tryz.func106, Tryz.ntmps106
    go_wp2_with fail
    refine H1.out.mono ?_
    rintro e w' ⟨rfl, rfl⟩
    go_wp2_with fail
    refine H2.out.mono ?_
    rintro e w' ⟨rfl, rfl⟩
    go_wp2_with (at_lookup; refine wp_lookZ_oks rfl _ _ rfl rfl HB.out undInt Tryz.underlying100 (i : Int) rfl HW.out _ HV.out ?_)
    go_ret2
    exact ⟨by rw [HL.out] <;> rfl, (Gr.refl _ _).alloc _⟩


end Go.Proofs.YtjbhallhmnahbaaGreat
