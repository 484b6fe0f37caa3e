/-
  Contracts of the helpers of layer 6's statements.
-/
import Derived.Test.YtlneehkkngnjhaaGapB
import Derived.Test.YtlneehkkngnjhaaReg
namespace Go.Proofs.Ytlneehkkngnjhaa
open Go.RowKit

def mx (y : Int) : Int := max 0 y
theorem mx_nonneg (y : Int) : 0 ≤ mx y := by unfold mx; omega
theorem max0 (P : Program) (ts : Array TypeId) (t : TypeId) (y : Int) (w : World) : (Builtin.max_ ts t #[.int .i64 0, .int .i64 y]).run P w = .ok (.int .i64 (mx y)) w := by
  rw [run_max_int2]
  have : (if y > 0 then y else 0) = mx y := by unfold mx; split <;> omega
  rw [this]
def tN (x : Int) : Int := 1 + mx x % 40
theorem tN_b (x : Int) : 1 ≤ tN x ∧ tN x ≤ 40 := by
  unfold tN
  have := mx_nonneg x
  omega

set_option maxHeartbeats 1000000 in
theorem tame_any (x y z : Int) (w : World) :
    Calls Try.prog 34 #[.agg #[.int .i64 x, .int .i64 y, .int .i64 z]] w fun e w' =>
      e = .returned (.tuple #[.int .i64 (tN x), .agg #[.int .i64 (mx y % tN x), .int .i64 (mx z % (tN x + 1)), .int .u32 (x % 4294967296)]]) ∧ Below w.heap.size w w' := by
  have hm := max0 Try.prog
  have b0 := mx_nonneg x
  have b1 := mx_nonneg y
  have b2 := mx_nonneg z
  have hN := tN_b x
  have eN : 1 + mx x % 40 = tN x := rfl
  go_enter Try.func34, Try.ntmps34
  go_wp2
  go_region
  go_wp2
  exact bodyPost_ret (v := .tuple #[.int .i64 (tN x), .agg #[.int .i64 (mx y % tN x), .int .i64 (mx z % (tN x + 1)), .int .u32 (x % 4294967296)]]) (by simp [results, Try.results34, go_sem]) rfl ⟨rfl, by go_grown⟩

/-! ### The state behind so many moves, in numbers -/
theorem div_next (j M : Nat) (_hM : 0 < M) (h : j % M + 1 < M) : (j + 1) / M = j / M ∧ (j + 1) % M = j % M + 1 := by
  have e : j + 1 = M * (j / M) + (j % M + 1) := by have := Nat.div_add_mod j M; omega
  constructor
  · conv => lhs; rw [e]
    rw [Nat.mul_add_div (by omega), Nat.div_eq_of_lt h, Nat.add_zero]
  · conv => lhs; rw [e]
    rw [Nat.mul_add_mod, Nat.mod_eq_of_lt h]
theorem div_wrap (j M : Nat) (_hM : 0 < M) (h : ¬ j % M + 1 < M) : (j + 1) / M = j / M + 1 ∧ (j + 1) % M = 0 := by
  have hl := Nat.mod_lt j (show 0 < M by omega)
  have e : j + 1 = M * (j / M + 1) := by have := Nat.div_add_mod j M; rw [Nat.mul_add]; omega
  constructor
  · conv => lhs; rw [e]
    rw [Nat.mul_div_cancel_left _ (by omega)]
  · conv => lhs; rw [e]
    rw [Nat.mul_mod_right]

/-- Start and Gap behind j moves from the first state. -/
def sAt (m j : Nat) : Int := ((j / (m + 1) % m : Nat) : Int)
def gAt (m j : Nat) : Int := (m : Int) - ((j % (m + 1) : Nat) : Int)
theorem at_right (m j : Nat) (h1 : 1 ≤ m) (h2 : m ≤ 1024) : rightS (sAt m j) (gAt m j) m := by
  unfold rightS sAt gAt
  have a := Nat.mod_lt (j / (m + 1)) (show 0 < m by omega)
  have b := Nat.mod_lt j (show 0 < m + 1 by omega)
  omega
theorem at_pos (m j : Nat) (_h1 : 1 ≤ m) (h : 0 < gAt m j) : sAt m (j + 1) = sAt m j ∧ gAt m (j + 1) = gAt m j - 1 := by
  unfold gAt at h
  obtain ⟨a, b⟩ := div_next j (m + 1) (by omega) (by omega)
  unfold sAt gAt
  rw [a, b]
  exact ⟨rfl, by omega⟩
theorem at_zero (m j : Nat) (h1 : 1 ≤ m) (h : gAt m j = 0) : sAt m (j + 1) = (sAt m j + 1) % m ∧ gAt m (j + 1) = m := by
  unfold gAt at h
  obtain ⟨a, b⟩ := div_wrap j (m + 1) (by omega) (by omega)
  unfold sAt gAt
  rw [a, b]
  constructor
  · have : (j / (m + 1) + 1) % m = (j / (m + 1) % m + 1) % m := by rw [Nat.mod_add_mod]
    rw [this]; rfl
  · simp

/-- One move, either way. -/
theorem next_at (m j : Nat) (w : World) (h1 : 1 ≤ m) (h2 : m ≤ 1024) (hj : j < 4294967295) :
    Calls Try.prog 42 #[.agg #[.int .i64 (sAt m j), .int .i64 (gAt m j), .int .u32 (j : Int)], .int .i64 (m : Int)] w fun e w' =>
      (∃ p q : Int, e = .returned (.tuple #[.agg #[.int .i64 (sAt m (j + 1)), .int .i64 (gAt m (j + 1)), .int .u32 ((j + 1 : Nat) : Int)], .int .i64 p, .int .i64 q])) ∧ Below w.heap.size w w' := by
  have hr := at_right m j h1 h2
  have em : m1 (j : Int) = ((j + 1 : Nat) : Int) := by unfold m1; omega
  by_cases hg : 0 < gAt m j
  · obtain ⟨e1, e2⟩ := at_pos m j h1 hg
    rw [e1, e2, ← em]
    exact (next_pos _ _ _ _ w hr hg (by omega)).mono fun e w' ⟨he, hb⟩ => ⟨⟨_, _, he⟩, hb⟩
  · have h0 : gAt m j = 0 := by have := hr.2.2.2.2.1; omega
    obtain ⟨e1, e2⟩ := at_zero m j h1 h0
    rw [e1, e2, ← em, h0]
    rw [h0] at hr
    exact (next_zero _ _ _ w hr (by omega)).mono fun e w' ⟨he, hb⟩ => ⟨⟨_, _, he⟩, hb⟩

theorem bcellG {W w1 : World} (hb : Below W.heap.size W w1) : (∀ b o, b < W.heap.size → w1.cell? ⟨b, o, none⟩ = W.cell? ⟨b, o, none⟩) ∧ (∀ b o, b < W.heap.size → w1.frozen? ⟨b, o, none⟩ = W.frozen? ⟨b, o, none⟩) :=
  ⟨fun b o h => hb.cell (p := ⟨b, o, none⟩) h, fun b o h => hb.frozen (p := ⟨b, o, none⟩) h⟩

theorem Below_nx {w w1 w2 : World} (h : Below w.heap.size w w1) (k : Below w1.heap.size w1 w2) : Below w.heap.size w w2 := h.trans (k.mono h.size)

/-! ### A block that holds a state -/
def StB (w : World) (b : Nat) (s g m : Int) : Prop := w.heap[b]? = some (stC s g m)
section
variable {w w' : World} {b : Nat} {s g m : Int}
theorem StB.lt (h : StB w b s g m) : b < w.heap.size := (Array.getElem?_eq_some_iff.1 h).1
theorem StB.cells (h : StB w b s g m) : w.cell? ⟨b, 0, none⟩ = some (.int .i64 s) ∧ w.cell? ⟨b, 1, none⟩ = some (.int .i64 g) ∧ w.cell? ⟨b, 2, none⟩ = some (.int .u32 m) :=
  ⟨cell_of_row w b 0 _ _ (0, 0) h, cell_of_row w b 1 _ _ (0, 0) h, cell_of_row w b 2 _ _ (0, 0) h⟩
theorem StB.frozen (h : StB w b s g m) : w.frozen? ⟨b, 0, none⟩ = false ∧ w.frozen? ⟨b, 1, none⟩ = false ∧ w.frozen? ⟨b, 2, none⟩ = false :=
  ⟨frozen_of_row w b 0 _ _ h, frozen_of_row w b 1 _ _ h, frozen_of_row w b 2 _ _ h⟩
theorem StB.below (h : StB w b s g m) (hb : Below w.heap.size w w') : StB w' b s g m := (hb.block b h.lt).trans h
theorem StB.new (w : World) (s g m : Int) : StB (w.alloc (stC s g m)) w.heap.size s g m := heap_alloc_new w _
theorem StB.alloc (h : StB w b s g m) (o : Obj) : StB (w.alloc o) b s g m := (Below.heap_alloc w o b h.lt).trans h
theorem StB.far (h : StB w b s g m) {a : Addr} (ha : b ≠ a.block) (u : Value) : StB (w.setCell a u) b s g m := (Below.heap_setCell w a u b ha).trans h
theorem StB.drew (h : StB w b s g m) : StB w.drew b s g m := h
theorem StB.drewN (h : StB w b s g m) (n : Nat) : StB (w.drewN n) b s g m := h
theorem StB.set (h : StB w b s g m) (s' g' m' : Int) : StB (((w.setCell ⟨b, 0, none⟩ (.int .i64 s')).setCell ⟨b, 1, none⟩ (.int .i64 g')).setCell ⟨b, 2, none⟩ (.int .u32 m')) b s' g' m' := by
  have h1 := heap_setCell_same w b 0 _ _ (.int .i64 s') h
  have h2 := heap_setCell_same _ b 1 _ _ (.int .i64 g') h1
  exact heap_setCell_same _ b 2 _ _ (.int .u32 m') h2
end

set_option maxHeartbeats 1000000 in
theorem wakes6_any (w : World) :
    Calls Try.prog 41 #[] w fun e w' => e = .returned (.bool true) ∧ Below w.heap.size w w' := by
  go_enter Try.func41, Try.ntmps41
  go_wp2_with fail
  refine (first_any 4 _ (by omega) (by omega)).mono ?_
  rintro e w1 ⟨rfl, hb1⟩
  have S1 := StB.new w1 0 4 0
  go_wp2_with fail
  refine (slot_yes 0 4 0 4 0 _ (by decide) (by omega) (by omega)).mono ?_
  rintro e w2 ⟨rfl, hb2⟩
  rw [show slotI 0 4 4 0 = 0 from by decide]
  have S2 := S1.below hb2
  clear S1
  obtain ⟨c0, c1, c2⟩ := S2.cells
  go_wp2_with fail
  refine (next_pos 0 4 0 4 _ (by decide) (by omega) (by omega)).mono ?_
  rintro e w3 ⟨rfl, hb3⟩
  rw [show m1 0 = 1 from rfl, show (4 : Int) - 1 = 3 from rfl]
  have n1 := hb1.size
  have B3 := Below_nx (Below_nx (hb1.alloc hb1.size _) hb2) hb3
  clear hb1 hb2
  have S3 := (S2.below hb3).alloc (stC 0 3 1)
  have T3 := StB.new w3 0 3 1
  have B4 := B3.alloc B3.size (stC 0 3 1)
  have n3 := (S2.below hb3).lt
  clear S2 c0 c1 c2 B3 hb3
  unfold stC at S3 T3 B4
  go_wp2_with fail
  generalize hv : w3.alloc (Obj.cells #[Value.int IntKind.i64 0, Value.int IntKind.i64 3, Value.int IntKind.u32 1] 58) = v at *
  clear hv
  generalize w1.heap.size = b1 at *
  generalize w3.heap.size = b3 at *
  go_loopw [15] (fun i wr => ∃ j : Nat, j ≤ 4 ∧ i = .int .i64 j ∧ StB wr b1 (sAt 4 j) (gAt 4 j) j ∧ StB wr b3 0 3 1 ∧ Below w.heap.size w wr) (fun i _ => 4 - (intOf i).toNat)
  case atStart => exact ⟨0, by omega, rfl, S3, T3, B4⟩
  case round =>
    clear S3 T3 B4
    obtain ⟨j, hj, rfl, S3, T3, B4⟩ := hrel
    obtain ⟨c0, c1, c2⟩ := S3.cells
    have hlt1 := S3.lt
    by_cases hlt : j < 4
    · go_wp2_with fail
      refine (next_at 4 j _ (by omega) (by omega) (by omega)).mono ?_
      rintro e w4 ⟨⟨p, q, rfl⟩, hb4⟩
      have S4 := S3.below hb4
      have T4 := T3.below hb4
      have B5 := (((Below_nx B4 hb4).setCell (p := ⟨b1, 0, none⟩) n1 (.int .i64 (sAt 4 (j + 1)))).setCell (p := ⟨b1, 1, none⟩) n1 (.int .i64 (gAt 4 (j + 1)))).setCell (p := ⟨b1, 2, none⟩) n1 (.int .u32 ((j + 1 : Nat) : Int))
      have R1 := S4.set (sAt 4 (j + 1)) (gAt 4 (j + 1)) ((j + 1 : Nat) : Int)
      have R2 := ((T4.far (a := ⟨b1, 0, none⟩) (by simp; omega) (.int .i64 (sAt 4 (j + 1)))).far (a := ⟨b1, 1, none⟩) (by simp; omega) (.int .i64 (gAt 4 (j + 1)))).far (a := ⟨b1, 2, none⟩) (by simp; omega) (.int .u32 ((j + 1 : Nat) : Int))
      have RR := Lib.hid (And.intro R1 (And.intro R2 B5))
      obtain ⟨d0, d1, d2⟩ := S4.cells
      obtain ⟨f0, f1, f2⟩ := S4.frozen
      clear R1 R2 B5 S3 T3 S4 T4 B4 c0 c1 c2 hb4
      go_wp2
      go_roundw
      case rel => exact ⟨j + 1, by omega, by go_num, RR.out.1, RR.out.2.1, RR.out.2.2⟩
      case measure => simp [intOf]; omega
    · obtain rfl : j = 4 := by omega
      go_wp2_with fail
      refine (next_at 4 4 _ (by omega) (by omega) (by omega)).mono ?_
      rintro e w4 ⟨⟨p, q, rfl⟩, hb4⟩
      rw [show sAt 4 (4 + 1) = 1 from by decide, show gAt 4 (4 + 1) = 4 from by decide]
      have S4 := S3.below hb4
      have T4 := T3.below hb4
      have B5 := (((Below_nx B4 hb4).setCell (p := ⟨b1, 0, none⟩) n1 (.int .i64 1)).setCell (p := ⟨b1, 1, none⟩) n1 (.int .i64 4)).setCell (p := ⟨b1, 2, none⟩) n1 (.int .u32 5)
      have R1 := S4.set 1 4 5
      have R2 := ((T4.far (a := ⟨b1, 0, none⟩) (by simp; omega) (.int .i64 1)).far (a := ⟨b1, 1, none⟩) (by simp; omega) (.int .i64 4)).far (a := ⟨b1, 2, none⟩) (by simp; omega) (.int .u32 5)
      obtain ⟨d0, d1, d2⟩ := S4.cells
      obtain ⟨f0, f1, f2⟩ := S4.frozen
      have RR := Lib.hid (And.intro R1 (And.intro R2 B5))
      obtain ⟨g0, g1, g2⟩ := R2.cells
      clear R1 R2 B5 S3 T3 S4 T4 B4 c0 c1 c2 hb4
      go_wp2_with fail
      refine (slot_yes 0 3 1 4 3 _ (by decide) (by omega) (by omega)).mono ?_
      rintro e w9 ⟨rfl, hb9⟩
      rw [show slotI 0 3 4 3 = 4 from by decide]
      have S9 := RR.out.1.below hb9
      have B9 := Below_nx RR.out.2.2 hb9
      obtain ⟨h0, h1, h2⟩ := S9.cells
      clear RR hb9 d0 d1 d2 g0 g1 g2 f0 f1 f2
      go_wp2_with fail
      refine (slot_yes 1 4 5 4 0 _ (by decide) (by omega) (by omega)).mono ?_
      rintro e w10 ⟨rfl, hb10⟩
      rw [show slotI 1 4 4 0 = 1 from by decide]
      obtain ⟨k0, k1, k2⟩ := (S9.below hb10).cells
      go_wp2_with fail
      go_ret
      exact ⟨rfl, Below_nx B9 hb10⟩

def InvG (w : World) (b : Nat) (s g m : Int) (w' : World) : Prop := StB w' b s g m ∧ Below w.heap.size w w'

end Go.Proofs.Ytlneehkkngnjhaa
