/-
  MgY: Gap, GapB, GapC.
-/
import Derived.Test.YtdgcninmpcmdcaaGreatRows
import Derived.Test.YtdgcninmpcmdcaaGreatPure
import Derived.WalkKit
import Derived.Handy
import Derived.Lib.Hide
import Derived.Deep.QuietTactic
import Derived.BigQuiet
import Derived.Test.YtdgcninmpcmdcaaGreatBase

/-
  Contracts of package gap's functions.
-/
namespace Go.Proofs.YtdgcninmpcmdcaaGreat
open Go.RowKit

/-- May such a state be, of so many lines? -/
def rightS (s g n : Int) : Prop := 1 ≤ n ∧ n ≤ 1024 ∧ 0 ≤ s ∧ s < n ∧ 0 ≤ g ∧ g ≤ n
instance (s g n : Int) : Decidable (rightS s g n) := by unfold rightS; infer_instance
def stV (s g m : Int) : Value := .agg #[.int .i64 s, .int .i64 g, .int .u32 m]
def stC (s g m : Int) : Obj := .cells #[.int .i64 s, .int .i64 g, .int .u32 m] 80

theorem ring_yes (n : Int) (w : World) (h1 : 1 ≤ n) (h2 : n ≤ 1024) : Calls Tryz.prog 75 #[.int .i64 n] w fun e w' => e = .returned (.bool true) ∧ w = w' := by
  go_enter Tryz.func75, Tryz.ntmps75
  go_wp2
  go_ret
  exact ⟨by first | rfl | (simp; omega), rfl⟩
theorem ring_no (n : Int) (w : World) (h : n < 1 ∨ (1 ≤ n ∧ 1024 < n)) : Calls Tryz.prog 75 #[.int .i64 n] w fun e w' => e = .returned (.bool false) ∧ w = w' := by
  rcases h with h | ⟨h, h'⟩
  all_goals
    go_enter Tryz.func75, Tryz.ntmps75
    go_wp2
    go_ret
    exact ⟨by first | rfl | (simp; omega), rfl⟩

set_option maxHeartbeats 800000 in
theorem right_yes (s g m n : Int) (w : World) (h : rightS s g n) : Calls Tryz.prog 66 #[.agg #[.int .i64 s, .int .i64 g, .int .u32 m], .int .i64 n] w fun e w' => e = .returned (.bool true) ∧ w.alloc (stC s g m) = w' := by
  obtain ⟨h1, h2, h3, h4, h5, h6⟩ := h
  go_enter Tryz.func66, Tryz.ntmps66
  go_wp2_with (go_at_call 75; refine (ring_yes _ _ (by omega) (by omega)).mono ?_; rintro e w' ⟨rfl, rfl⟩)
  go_ret
  exact ⟨by first | rfl | (simp; omega), rfl⟩
set_option maxHeartbeats 800000 in
theorem right_no (s g m n : Int) (w : World) (h : ¬ rightS s g n) : Calls Tryz.prog 66 #[.agg #[.int .i64 s, .int .i64 g, .int .u32 m], .int .i64 n] w fun e w' => e = .returned (.bool false) ∧ w.alloc (stC s g m) = w' := by
  have hh : (n < 1 ∨ (1 ≤ n ∧ 1024 < n)) ∨ (1 ≤ n ∧ n ≤ 1024 ∧ (s < 0 ∨ (0 ≤ s ∧ n ≤ s) ∨ (0 ≤ s ∧ s < n ∧ g < 0) ∨ (0 ≤ s ∧ s < n ∧ 0 ≤ g ∧ n < g))) := by
    unfold rightS at h; omega
  clear h
  rcases hh with h | ⟨h1, h2, h | ⟨h3, h4⟩ | ⟨h3, h4, h5⟩ | ⟨h3, h4, h5, h6⟩⟩
  · have H := Lib.hid h
    clear h
    go_enter Tryz.func66, Tryz.ntmps66
    go_wp2_with (go_at_call 75; refine (ring_no _ _ H.out).mono ?_; rintro e w' ⟨rfl, rfl⟩)
    go_ret
    exact ⟨rfl, rfl⟩
  all_goals
    go_enter Tryz.func66, Tryz.ntmps66
    go_wp2_with (go_at_call 75; refine (ring_yes _ _ (by omega) (by omega)).mono ?_; rintro e w' ⟨rfl, rfl⟩)
    go_ret
    exact ⟨by first | rfl | (simp; omega), rfl⟩

def slotI (s g n i : Int) : Int := if (i + s) % n < g then (i + s) % n else (i + s) % n + 1
def lineI (s g n p : Int) : Int := ((if g < p then p - 1 else p) - s + n) % n

set_option maxHeartbeats 800000 in
theorem slot_yes (s g m n i : Int) (w : World) (h : rightS s g n) (h0 : 0 ≤ i) (h1 : i < n) :
    Calls Tryz.prog 102 #[.agg #[.int .i64 s, .int .i64 g, .int .u32 m], .int .i64 n, .int .i64 i] w fun e w' => e = .returned (.int .i64 (slotI s g n i)) ∧ Below w.heap.size w w' := by
  have H := Lib.hid h
  obtain ⟨a1, a2, a3, a4, a5, a6⟩ := h
  have q1 := Int.emod_nonneg (i + s) (show n ≠ 0 by omega)
  have q2 := Int.emod_lt_of_pos (i + s) (show 0 < n by omega)
  by_cases c : (i + s) % n < g
  · have e : slotI s g n i = (i + s) % n := by unfold slotI; rw [if_pos c]
    rw [e]
    clear e
    go_enter Tryz.func102, Tryz.ntmps102
    go_wp2_with (go_at_call 66; refine (right_yes _ _ _ _ _ H.out).mono ?_; rintro e w' ⟨rfl, rfl⟩; unfold stC)
    go_ret
    exact ⟨rfl, by go_grown⟩
  · have e : slotI s g n i = (i + s) % n + 1 := by unfold slotI; rw [if_neg c]
    rw [e]
    clear e
    go_enter Tryz.func102, Tryz.ntmps102
    go_wp2_with (go_at_call 66; refine (right_yes _ _ _ _ _ H.out).mono ?_; rintro e w' ⟨rfl, rfl⟩; unfold stC)
    go_ret
    exact ⟨rfl, by go_grown⟩
set_option maxHeartbeats 800000 in
theorem slot_no (s g m n i : Int) (w : World) (h : ¬ rightS s g n ∨ (rightS s g n ∧ (i < 0 ∨ (0 ≤ i ∧ n ≤ i)))) :
    Calls Tryz.prog 102 #[.agg #[.int .i64 s, .int .i64 g, .int .u32 m], .int .i64 n, .int .i64 i] w fun e w' => e = .returned (.int .i64 (-1)) ∧ Below w.heap.size w w' := by
  rcases h with h | ⟨h, h' | ⟨h', h''⟩⟩
  · have H := Lib.hid h
    clear h
    go_enter Tryz.func102, Tryz.ntmps102
    go_wp2_with (go_at_call 66; refine (right_no _ _ _ _ _ H.out).mono ?_; rintro e w' ⟨rfl, rfl⟩; unfold stC)
    go_ret
    exact ⟨rfl, by go_grown⟩
  all_goals
    have H := Lib.hid h
    clear h
    go_enter Tryz.func102, Tryz.ntmps102
    go_wp2_with (go_at_call 66; refine (right_yes _ _ _ _ _ H.out).mono ?_; rintro e w' ⟨rfl, rfl⟩; unfold stC)
    go_ret
    exact ⟨rfl, by go_grown⟩
end Go.Proofs.YtdgcninmpcmdcaaGreat

/-
  Contracts of gap's Next and First.
-/
namespace Go.Proofs.YtdgcninmpcmdcaaGreat
open Go.RowKit

def m1 (m : Int) : Int := (m + 1) % 4294967296

set_option maxHeartbeats 800000 in
theorem next_pos (s g m n : Int) (w : World) (h : rightS s g n) (hg : 0 < g) (hm : 0 ≤ m ∧ m ≤ 4294967295) :
    Calls Tryz.prog 115 #[.agg #[.int .i64 s, .int .i64 g, .int .u32 m], .int .i64 n] w fun e w' => e = .returned (.tuple #[.agg #[.int .i64 s, .int .i64 (g - 1), .int .u32 (m1 m)], .int .i64 (g - 1), .int .i64 g]) ∧ Below w.heap.size w w' := by
  have H := Lib.hid h
  obtain ⟨a1, a2, a3, a4, a5, a6⟩ := h
  go_enter Tryz.func115, Tryz.ntmps115
  go_wp2_with (go_at_call 66; refine (right_yes _ _ _ _ _ H.out).mono ?_; rintro e w' ⟨rfl, rfl⟩; unfold stC)
  go_region
  go_wp2
  exact bodyPost_ret (v := .tuple #[(.agg #[.int .i64 s, .int .i64 (g - 1), .int .u32 ((m + 1) % 4294967296)]), .int .i64 (g - 1), .int .i64 g]) (by simp [results, Tryz.results115, go_sem]) rfl ⟨rfl, by go_grown⟩
set_option maxHeartbeats 800000 in
theorem next_zero (s m n : Int) (w : World) (h : rightS s 0 n) (hm : 0 ≤ m ∧ m ≤ 4294967295) :
    Calls Tryz.prog 115 #[.agg #[.int .i64 s, .int .i64 0, .int .u32 m], .int .i64 n] w fun e w' => e = .returned (.tuple #[.agg #[.int .i64 ((s + 1) % n), .int .i64 n, .int .u32 (m1 m)], .int .i64 n, .int .i64 0]) ∧ Below w.heap.size w w' := by
  have H := Lib.hid h
  obtain ⟨a1, a2, a3, a4, a5, a6⟩ := h
  go_enter Tryz.func115, Tryz.ntmps115
  go_wp2_with (go_at_call 66; refine (right_yes _ _ _ _ _ H.out).mono ?_; rintro e w' ⟨rfl, rfl⟩; unfold stC)
  exact bodyPost_ret (v := .tuple #[(.agg #[.int .i64 ((s + 1) % n), .int .i64 n, .int .u32 ((m + 1) % 4294967296)]), .int .i64 n, .int .i64 0]) (by simp [results, Tryz.results115, go_sem]) rfl ⟨rfl, by go_grown⟩
set_option maxHeartbeats 800000 in
theorem next_no (s g m n : Int) (w : World) (h : ¬ rightS s g n) :
    Calls Tryz.prog 115 #[.agg #[.int .i64 s, .int .i64 g, .int .u32 m], .int .i64 n] w fun e w' => e = .returned (.tuple #[.agg #[.int .i64 0, .int .i64 0, .int .u32 0], .int .i64 0, .int .i64 0]) ∧ Below w.heap.size w w' := by
  have H := Lib.hid h
  clear h
  go_enter Tryz.func115, Tryz.ntmps115
  go_wp2_with (go_at_call 66; refine (right_no _ _ _ _ _ H.out).mono ?_; rintro e w' ⟨rfl, rfl⟩; unfold stC)
  exact bodyPost_ret (v := .tuple #[(.agg #[.int .i64 0, .int .i64 0, .int .u32 0]), .int .i64 0, .int .i64 0]) (by simp [results, Tryz.results115, go_sem]) rfl ⟨rfl, by go_grown⟩

theorem first_any (n : Int) (w : World) (h1 : 1 ≤ n) (h2 : n ≤ 1024) :
    Calls Tryz.prog 30 #[.int .i64 n] w fun e w' => e = .returned (.agg #[.int .i64 0, .int .i64 n, .int .u32 0]) ∧ Below w.heap.size w w' := by
  go_enter Tryz.func30, Tryz.ntmps30
  go_wp2_with (go_at_call 75; refine (ring_yes _ _ (by omega) (by omega)).mono ?_; rintro e w' ⟨rfl, rfl⟩)
  exact bodyPost_ret (v := .agg #[.int .i64 0, .int .i64 n, .int .u32 0]) (by simp [results, Tryz.results30, go_sem]) rfl ⟨rfl, by go_grown⟩
theorem first_no (n : Int) (w : World) (h : n < 1 ∨ (1 ≤ n ∧ 1024 < n)) :
    Calls Tryz.prog 30 #[.int .i64 n] w fun e w' => e = .returned (.agg #[.int .i64 0, .int .i64 0, .int .u32 0]) ∧ Below w.heap.size w w' := by
  have H := Lib.hid h
  clear h
  go_enter Tryz.func30, Tryz.ntmps30
  go_wp2_with (go_at_call 75; refine (ring_no _ _ H.out).mono ?_; rintro e w' ⟨rfl, rfl⟩)
  exact bodyPost_ret (v := .agg #[.int .i64 0, .int .i64 0, .int .u32 0]) (by simp [results, Tryz.results30, go_sem]) rfl ⟨rfl, by go_grown⟩

end Go.Proofs.YtdgcninmpcmdcaaGreat

/-
  Contracts of the helpers of layer 6's statements.
-/
namespace Go.Proofs.YtdgcninmpcmdcaaGreat
open Go.RowKit

def tN (x : Int) : Int := 1 + mx x % 40
theorem tN_b (x : Int) : 1 ≤ tN x ∧ tN x ≤ 40 := by
  unfold tN
  have := mx_nonneg x
  omega

/-! ### The state behind so many moves, in numbers -/
theorem div_next (j M : Nat) (_hM : 0 < M) (h : j % M + 1 < M) : (j + 1) / M = j / M ∧ (j + 1) % M = j % M + 1 := by
  have e : j + 1 = M * (j / M) + (j % M + 1) := by have := Nat.div_add_mod j M; omega
  constructor
  · conv => lhs; rw [e]
    rw [Nat.mul_add_div (by omega), Nat.div_eq_of_lt h, Nat.add_zero]
  · conv => lhs; rw [e]
    rw [Nat.mul_add_mod, Nat.mod_eq_of_lt h]
theorem div_wrap (j M : Nat) (_hM : 0 < M) (h : ¬ j % M + 1 < M) : (j + 1) / M = j / M + 1 ∧ (j + 1) % M = 0 := by
  have hl := Nat.mod_lt j (show 0 < M by omega)
  have e : j + 1 = M * (j / M + 1) := by have := Nat.div_add_mod j M; rw [Nat.mul_add]; omega
  constructor
  · conv => lhs; rw [e]
    rw [Nat.mul_div_cancel_left _ (by omega)]
  · conv => lhs; rw [e]
    rw [Nat.mul_mod_right]

/-- Start and Gap behind j moves from the first state. -/
def sAt (m j : Nat) : Int := ((j / (m + 1) % m : Nat) : Int)
def gAt (m j : Nat) : Int := (m : Int) - ((j % (m + 1) : Nat) : Int)
theorem at_right (m j : Nat) (h1 : 1 ≤ m) (h2 : m ≤ 1024) : rightS (sAt m j) (gAt m j) m := by
  unfold rightS sAt gAt
  have a := Nat.mod_lt (j / (m + 1)) (show 0 < m by omega)
  have b := Nat.mod_lt j (show 0 < m + 1 by omega)
  omega
theorem at_pos (m j : Nat) (_h1 : 1 ≤ m) (h : 0 < gAt m j) : sAt m (j + 1) = sAt m j ∧ gAt m (j + 1) = gAt m j - 1 := by
  unfold gAt at h
  obtain ⟨a, b⟩ := div_next j (m + 1) (by omega) (by omega)
  unfold sAt gAt
  rw [a, b]
  exact ⟨rfl, by omega⟩
theorem at_zero (m j : Nat) (h1 : 1 ≤ m) (h : gAt m j = 0) : sAt m (j + 1) = (sAt m j + 1) % m ∧ gAt m (j + 1) = m := by
  unfold gAt at h
  obtain ⟨a, b⟩ := div_wrap j (m + 1) (by omega) (by omega)
  unfold sAt gAt
  rw [a, b]
  constructor
  · have : (j / (m + 1) + 1) % m = (j / (m + 1) % m + 1) % m := by rw [Nat.mod_add_mod]
    rw [this]; rfl
  · simp

/-- One move, either way. -/
theorem next_at (m j : Nat) (w : World) (h1 : 1 ≤ m) (h2 : m ≤ 1024) (hj : j < 4294967295) :
    Calls Tryz.prog 115 #[.agg #[.int .i64 (sAt m j), .int .i64 (gAt m j), .int .u32 (j : Int)], .int .i64 (m : Int)] w fun e w' =>
      (∃ p q : Int, e = .returned (.tuple #[.agg #[.int .i64 (sAt m (j + 1)), .int .i64 (gAt m (j + 1)), .int .u32 ((j + 1 : Nat) : Int)], .int .i64 p, .int .i64 q])) ∧ Below w.heap.size w w' := by
  have hr := at_right m j h1 h2
  have em : m1 (j : Int) = ((j + 1 : Nat) : Int) := by unfold m1; omega
  by_cases hg : 0 < gAt m j
  · obtain ⟨e1, e2⟩ := at_pos m j h1 hg
    rw [e1, e2, ← em]
    exact (next_pos _ _ _ _ w hr hg (by omega)).mono fun e w' ⟨he, hb⟩ => ⟨⟨_, _, he⟩, hb⟩
  · have h0 : gAt m j = 0 := by have := hr.2.2.2.2.1; omega
    obtain ⟨e1, e2⟩ := at_zero m j h1 h0
    rw [e1, e2, ← em, h0]
    rw [h0] at hr
    exact (next_zero _ _ _ w hr (by omega)).mono fun e w' ⟨he, hb⟩ => ⟨⟨_, _, he⟩, hb⟩

/-! ### A block that holds a state -/
def StB (w : World) (b : Nat) (s g m : Int) : Prop := w.heap[b]? = some (stC s g m)
section
variable {w w' : World} {b : Nat} {s g m : Int}
theorem StB.lt (h : StB w b s g m) : b < w.heap.size := (Array.getElem?_eq_some_iff.1 h).1
theorem StB.cells (h : StB w b s g m) : w.cell? ⟨b, 0, none⟩ = some (.int .i64 s) ∧ w.cell? ⟨b, 1, none⟩ = some (.int .i64 g) ∧ w.cell? ⟨b, 2, none⟩ = some (.int .u32 m) :=
  ⟨cell_of_row w b 0 _ _ (0, 0) h, cell_of_row w b 1 _ _ (0, 0) h, cell_of_row w b 2 _ _ (0, 0) h⟩
theorem StB.frozen (h : StB w b s g m) : w.frozen? ⟨b, 0, none⟩ = false ∧ w.frozen? ⟨b, 1, none⟩ = false ∧ w.frozen? ⟨b, 2, none⟩ = false :=
  ⟨frozen_of_row w b 0 _ _ h, frozen_of_row w b 1 _ _ h, frozen_of_row w b 2 _ _ h⟩
theorem StB.below (h : StB w b s g m) (hb : Below w.heap.size w w') : StB w' b s g m := (hb.block b h.lt).trans h
theorem StB.new (w : World) (s g m : Int) : StB (w.alloc (stC s g m)) w.heap.size s g m := heap_alloc_new w _
theorem StB.alloc (h : StB w b s g m) (o : Obj) : StB (w.alloc o) b s g m := (Below.heap_alloc w o b h.lt).trans h
theorem StB.far (h : StB w b s g m) {a : Addr} (ha : b ≠ a.block) (u : Value) : StB (w.setCell a u) b s g m := (Below.heap_setCell w a u b ha).trans h
theorem StB.drew (h : StB w b s g m) : StB w.drew b s g m := h
theorem StB.drewN (h : StB w b s g m) (n : Nat) : StB (w.drewN n) b s g m := h
theorem StB.set (h : StB w b s g m) (s' g' m' : Int) : StB (((w.setCell ⟨b, 0, none⟩ (.int .i64 s')).setCell ⟨b, 1, none⟩ (.int .i64 g')).setCell ⟨b, 2, none⟩ (.int .u32 m')) b s' g' m' := by
  have h1 := heap_setCell_same w b 0 _ _ (.int .i64 s') h
  have h2 := heap_setCell_same _ b 1 _ _ (.int .i64 g') h1
  exact heap_setCell_same _ b 2 _ _ (.int .u32 m') h2
end

def InvG (w : World) (b : Nat) (s g m : Int) (w' : World) : Prop := StB w' b s g m ∧ Below w.heap.size w w'

end Go.Proofs.YtdgcninmpcmdcaaGreat
