/-
  A device of package pm as a function of words and lines; its simple calls.
-/
import Derived.Test.YtgifjnniohcacaaMap
namespace Go.Proofs.Ytgifjnniohcacaa
open Go.RowKit

/-! ### Rows as functions -/
def rowOf (g : Nat → Value) (n : Nat) : Array Value := (Array.range n).map g
theorem rowOf_size (g : Nat → Value) (n : Nat) : (rowOf g n).size = n := by simp [rowOf]
theorem rowOf_get (g : Nat → Value) (n i : Nat) (h : i < n) : (rowOf g n)[i]? = some (g i) := by
  unfold rowOf
  rw [Array.getElem?_map, Array.getElem?_range]
  simp [h]
theorem rowOf_set (g : Nat → Value) (n i : Nat) (v : Value) : (rowOf g n).setIfInBounds i v = rowOf (fun j => if j = i then v else g j) n := by
  apply Array.ext
  · simp [rowOf]
  · intro j h1 h2
    have hj : j < n := by simpa [rowOf] using h2
    rw [Array.getElem_setIfInBounds (by simpa [rowOf] using hj)]
    by_cases e : i = j
    · subst e; simp [rowOf]
    · rw [if_neg e]
      have e2 : ¬ j = i := fun q => e q.symm
      simp [rowOf, e2]
theorem rowOf_congr {g g' : Nat → Value} {n : Nat} (h : ∀ i, i < n → g i = g' i) : rowOf g n = rowOf g' n := by
  apply Array.ext
  · simp [rowOf]
  · intro j h1 h2
    have hj : j < n := by simpa [rowOf] using h2
    simp [rowOf, h j hj]
theorem rowOf_made (v : Value) (hv : Value.cells v = #[v]) (n : Nat) : (madeCells (Value.cells v) (n * 1)).toList.toArray = rowOf (fun _ => v) n := by
  rw [made_one v hv]
  apply Array.ext
  · simp [rowOf]
  · intro i h1 h2
    simp [rowOf]

/-! ### The state -/
structure DevS where
  n : Nat
  med : Nat → Nat
  buf : Int → Option (Nat × Bool)
  wear : Nat → Int
  bad : Nat → Bool
  fuse : Int
  off : Bool
  cnt : Nat

def cellVal (p : Nat × Bool) : Value := .agg #[.int .u64 (p.1 : Int), .bool p.2]
def cellEnc (p : Nat × Bool) : DataW Unit := .agg [.lit (.int .u64 (p.1 : Int)), .lit (.bool p.2)]
def cellR : Value → Option (DataW Unit × List MemPlace)
  | .agg cs => match cs.toList with
    | [.int .u64 (.ofNat v), .bool f] => some (cellEnc (v, f), [])
    | _ => none
  | _ => none
theorem cellR_mk (p : Nat × Bool) : cellR (cellVal p) = some (cellEnc p, []) := rfl
theorem cellR_inv (v : Value) (y : DataW Unit × List MemPlace) (h : cellR v = some y) : ∃ a, v = cellVal a ∧ y = (cellEnc a, []) := by
  unfold cellR at h
  split at h
  · rename_i cs
    split at h
    · rename_i v f hl
      cases h
      refine ⟨(v, f), ?_, rfl⟩
      unfold cellVal
      congr 1
      apply Array.ext'
      exact hl
    · cases h
  · cases h
noncomputable def cellE : EltLaw Try.prog 95 (Nat × Bool) where
  val := cellVal
  enc := cellEnc
  R := cellR
  R_mk := cellR_mk
  R_inv := cellR_inv
  enc_inj := by
    intro a b h
    unfold cellEnc at h
    obtain ⟨a1, a2⟩ := a
    obtain ⟨b1, b2⟩ := b
    simp at h
    have h1 : a1 = b1 := by have := h.1; omega
    rw [h1, h.2]
  zero := (0, false)
  zero_run := fun _ => by kernel_rfl

/-- The blocks of a device. -/
structure DevA where
  bd : Nat
  bm : Nat
  bb : Nat
  bw : Nat
  bg : Nat
def DevA.all (a : DevA) : List Nat := [a.bd, a.bm, a.bb, a.bw, a.bg]
def headOf (a : DevA) (D : DevS) : Array Value :=
  #[.slice (some ⟨a.bm, 0, none⟩) (8 * D.n) (8 * D.n), .map (some a.bb), .slice (some ⟨a.bw, 0, none⟩) D.n D.n, .slice (some ⟨a.bg, 0, none⟩) D.n D.n, .int .i64 D.fuse, .bool D.off, .int .i64 (D.cnt : Int)]
/-- What a state keeps to. -/
structure DevOk (D : DevS) : Prop where
  lo : 1 ≤ D.n
  hi : D.n ≤ 8192
  sup : ∀ z, D.buf z ≠ none → 0 ≤ z ∧ z < 8 * D.n
  medB : ∀ i, D.med i < 18446744073709551616
  bufB : ∀ z p, D.buf z = some p → p.1 < 18446744073709551616
  fu : 0 ≤ D.fuse ∧ D.fuse ≤ 9223372036854775807
/-- A device in memory. -/
structure DevIs (W : World) (a : DevA) (D : DevS) : Prop where
  head : Holds W a.bd (headOf a D) 70
  med : Holds W a.bm (rowOf (fun i => .int .u64 (D.med i : Int)) (8 * D.n)) 47
  wear : Holds W a.bw (rowOf (fun i => .int .i64 (D.wear i)) D.n) 3
  bad : Holds W a.bg (rowOf (fun i => .bool (D.bad i)) D.n) 4
  buf : MapZ cellE 3 W a.bb D.cnt D.buf
  nd : a.all.Nodup
  ok : DevOk D

section
variable {W W' : World} {a : DevA} {D : DevS}
theorem DevIs.gr {bs : List Nat} (h : DevIs W a D) (g : Gr bs W W') (hn : ∀ b ∈ a.all, b ∉ bs) : DevIs W' a D :=
  ⟨h.head.gr g (hn _ (by simp [DevA.all])), h.med.gr g (hn _ (by simp [DevA.all])), h.wear.gr g (hn _ (by simp [DevA.all])), h.bad.gr g (hn _ (by simp [DevA.all])), h.buf.gr g (hn _ (by simp [DevA.all])), h.nd, h.ok⟩
theorem DevIs.gr0 (h : DevIs W a D) (g : Gr [] W W') : DevIs W' a D := h.gr g (by simp)
theorem DevIs.lt (h : DevIs W a D) : ∀ b ∈ a.all, b < W.heap.size := by
  intro b hb
  simp only [DevA.all, List.mem_cons, List.not_mem_nil, or_false] at hb
  rcases hb with rfl | rfl | rfl | rfl | rfl
  · exact h.head.lt
  · exact h.med.lt
  · exact h.buf.lt
  · exact h.wear.lt
  · exact h.bad.lt
theorem DevIs.c0 (h : DevIs W a D) : W.cell? ⟨a.bd, 0, none⟩ = some (.slice (some ⟨a.bm, 0, none⟩) (8 * D.n) (8 * D.n)) := h.head.cell 0
theorem DevIs.c1 (h : DevIs W a D) : W.cell? ⟨a.bd, 1, none⟩ = some (.map (some a.bb)) := h.head.cell 1
theorem DevIs.c2 (h : DevIs W a D) : W.cell? ⟨a.bd, 2, none⟩ = some (.slice (some ⟨a.bw, 0, none⟩) D.n D.n) := h.head.cell 2
theorem DevIs.c3 (h : DevIs W a D) : W.cell? ⟨a.bd, 3, none⟩ = some (.slice (some ⟨a.bg, 0, none⟩) D.n D.n) := h.head.cell 3
theorem DevIs.c4 (h : DevIs W a D) : W.cell? ⟨a.bd, 4, none⟩ = some (.int .i64 D.fuse) := h.head.cell 4
theorem DevIs.c5 (h : DevIs W a D) : W.cell? ⟨a.bd, 5, none⟩ = some (.bool D.off) := h.head.cell 5
theorem DevIs.c6 (h : DevIs W a D) : W.cell? ⟨a.bd, 6, none⟩ = some (.int .i64 (D.cnt : Int)) := h.head.cell 6
theorem DevIs.fr (h : DevIs W a D) (i : Nat) : W.frozen? ⟨a.bd, i, none⟩ = false := h.head.frozen i
theorem DevIs.medAt (h : DevIs W a D) {i : Nat} (hi : i < 8 * D.n) : W.cell? ⟨a.bm, i, none⟩ = some (.int .u64 (D.med i : Int)) := by rw [h.med.cell, rowOf_get _ _ _ hi]
theorem DevIs.wearAt (h : DevIs W a D) {i : Nat} (hi : i < D.n) : W.cell? ⟨a.bw, i, none⟩ = some (.int .i64 (D.wear i)) := by rw [h.wear.cell, rowOf_get _ _ _ hi]
theorem DevIs.badAt (h : DevIs W a D) {i : Nat} (hi : i < D.n) : W.cell? ⟨a.bg, i, none⟩ = some (.bool (D.bad i)) := by rw [h.bad.cell, rowOf_get _ _ _ hi]
end

/-! ### Calls that only read -/
section
variable (a : DevA) (D : DevS) (w : World) (h : DevIs w a D)
include h
theorem lines_any : Calls Try.prog 31 #[.pointer (some ⟨a.bd, 0, none⟩)] w fun e w' => e = .returned (.int .i64 D.n) ∧ w = w' := by
  have c2 := h.c2
  go_enter Try.func31, Try.ntmps31
  go_wp2
  go_ret
  exact ⟨rfl, rfl⟩
theorem hasWord_any (z : Int) : Calls Try.prog 49 #[.pointer (some ⟨a.bd, 0, none⟩), .int .i64 z] w fun e w' => e = .returned (.bool (decide (0 ≤ z ∧ z < 8 * D.n))) ∧ w = w' := by
  have H := Lib.hid (lines_any a D w h)
  have hn := h.ok.hi
  generalize D.n = n at *
  clear h
  by_cases h0 : 0 ≤ z
  · have hd : decide (0 ≤ z) = true := by simpa using h0
    by_cases h1 : z < 8 * n
    · have hd2 : decide (z < (n : Int) * 8) = true := by simp; omega
      rw [decide_eq_true (show 0 ≤ z ∧ z < 8 * n from ⟨h0, h1⟩)]
      go_enter Try.func49, Try.ntmps49
      go_wp2_with (refine H.out.mono ?_; rintro e w' ⟨rfl, rfl⟩)
      go_ret
      exact ⟨rfl, rfl⟩
    · have hd2 : decide (z < (n : Int) * 8) = false := by simp; omega
      rw [decide_eq_false (show ¬ (0 ≤ z ∧ z < 8 * n) from fun q => h1 q.2)]
      go_enter Try.func49, Try.ntmps49
      go_wp2_with (refine H.out.mono ?_; rintro e w' ⟨rfl, rfl⟩)
      go_ret
      exact ⟨rfl, rfl⟩
  · have hd : decide (0 ≤ z) = false := by simpa using h0
    rw [decide_eq_false (show ¬ (0 ≤ z ∧ z < 8 * n) from fun q => h0 q.1)]
    go_enter Try.func49, Try.ntmps49
    go_wp2_with (refine H.out.mono ?_; rintro e w' ⟨rfl, rfl⟩)
    go_ret
    exact ⟨rfl, rfl⟩
theorem hasLine_any (z : Int) : Calls Try.prog 43 #[.pointer (some ⟨a.bd, 0, none⟩), .int .i64 z] w fun e w' => e = .returned (.bool (decide (0 ≤ z ∧ z < D.n))) ∧ w = w' := by
  have H := Lib.hid (lines_any a D w h)
  generalize D.n = n at *
  clear h
  by_cases h0 : 0 ≤ z
  · have hd : decide (0 ≤ z) = true := by simpa using h0
    by_cases h1 : z < n
    · have hd2 : decide (z < (n : Int)) = true := by simp; omega
      rw [decide_eq_true (show 0 ≤ z ∧ z < n from ⟨h0, h1⟩)]
      go_enter Try.func43, Try.ntmps43
      go_wp2_with (refine H.out.mono ?_; rintro e w' ⟨rfl, rfl⟩)
      go_ret
      exact ⟨rfl, rfl⟩
    · have hd2 : decide (z < (n : Int)) = false := by simp; omega
      rw [decide_eq_false (show ¬ (0 ≤ z ∧ z < n) from fun q => h1 q.2)]
      go_enter Try.func43, Try.ntmps43
      go_wp2_with (refine H.out.mono ?_; rintro e w' ⟨rfl, rfl⟩)
      go_ret
      exact ⟨rfl, rfl⟩
  · have hd : decide (0 ≤ z) = false := by simpa using h0
    rw [decide_eq_false (show ¬ (0 ≤ z ∧ z < n) from fun q => h0 q.1)]
    go_enter Try.func43, Try.ntmps43
    go_wp2_with (refine H.out.mono ?_; rintro e w' ⟨rfl, rfl⟩)
    go_ret
    exact ⟨rfl, rfl⟩
end

end Go.Proofs.Ytgifjnniohcacaa
