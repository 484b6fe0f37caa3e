/-
  The walk of GapMoves: Next of every state.
-/
import Derived.Test.YtlneehkkngnjhaaGapC
namespace Go.Proofs.Ytlneehkkngnjhaa
open Go.RowKit

theorem Below_alloc_nx {w w1 : World} (h : Below w.heap.size w w1) (o : Obj) : Below w.heap.size w (w1.alloc o) := h.alloc h.size o

/-- The reference's Next. -/
def rnS (s g n : Int) : Int := if 0 < g then s else (if s + 1 = n then 0 else s + 1)
def rnG (g n : Int) : Int := if 0 < g then g - 1 else n
def rnF (g n : Int) : Int := if 0 < g then g - 1 else n
def rnT (g : Int) : Int := if 0 < g then g else 0

set_option maxHeartbeats 800000 in
theorem rnext_pos (s g n : Int) (w : World) (hs : rightS s g n) (h : 0 < g) :
    Calls Try.prog 43 #[.int .i64 s, .int .i64 g, .int .i64 n] w fun e w' => e = .returned (.tuple #[.int .i64 s, .int .i64 (g - 1), .int .i64 (g - 1), .int .i64 g]) ∧ w = w' := by
  obtain ⟨a1, a2, a3, a4, a5, a6⟩ := hs
  go_enter Try.func43, Try.ntmps43
  go_wp2
  exact bodyPost_ret (v := .tuple #[.int .i64 s, .int .i64 (g - 1), .int .i64 (g - 1), .int .i64 g]) (by simp [results, Try.results43, go_sem]) rfl ⟨rfl, rfl⟩
set_option maxHeartbeats 800000 in
theorem rnext_zero (s n : Int) (w : World) (hs : rightS s 0 n) :
    Calls Try.prog 43 #[.int .i64 s, .int .i64 0, .int .i64 n] w fun e w' => e = .returned (.tuple #[.int .i64 ((s + 1) % n), .int .i64 n, .int .i64 n, .int .i64 0]) ∧ w = w' := by
  obtain ⟨a1, a2, a3, a4, a5, a6⟩ := hs
  by_cases c : s + 1 = n
  · have hb : (s + 1 == n) = true := by simp [c]
    have e : (s + 1) % n = 0 := by rw [c]; exact Int.emod_self
    rw [e]
    have C := Lib.hid c
    clear c e
    go_enter Try.func43, Try.ntmps43
    go_wp2
    exact bodyPost_ret (v := .tuple #[.int .i64 0, .int .i64 n, .int .i64 n, .int .i64 0]) (by simp [results, Try.results43, go_sem]) rfl ⟨rfl, rfl⟩
  · have hb : (s + 1 == n) = false := by simp [c]
    have e : (s + 1) % n = s + 1 := Int.emod_eq_of_lt (by omega) (by omega)
    rw [e]
    clear c e
    go_enter Try.func43, Try.ntmps43
    go_wp2
    exact bodyPost_ret (v := .tuple #[.int .i64 (s + 1), .int .i64 n, .int .i64 n, .int .i64 0]) (by simp [results, Try.results43, go_sem]) rfl ⟨rfl, rfl⟩

set_option maxHeartbeats 800000 in
theorem rright_yes (s g n : Int) (w : World) (h : rightS s g n) : Calls Try.prog 38 #[.int .i64 s, .int .i64 g, .int .i64 n] w fun e w' => e = .returned (.bool true) ∧ w = w' := by
  obtain ⟨h1, h2, h3, h4, h5, h6⟩ := h
  go_enter Try.func38, Try.ntmps38
  go_wp2
  go_ret
  exact ⟨by first | rfl | (simp; omega), rfl⟩
set_option maxHeartbeats 800000 in
theorem rright_no (s g n : Int) (w : World) (h : ¬ rightS s g n) : Calls Try.prog 38 #[.int .i64 s, .int .i64 g, .int .i64 n] w fun e w' => e = .returned (.bool false) ∧ w = w' := by
  have hh : n < 1 ∨ (1 ≤ n ∧ 1024 < n) ∨ (1 ≤ n ∧ n ≤ 1024 ∧ s < 0) ∨ (1 ≤ n ∧ n ≤ 1024 ∧ 0 ≤ s ∧ n ≤ s) ∨ (1 ≤ n ∧ n ≤ 1024 ∧ 0 ≤ s ∧ s < n ∧ g < 0) ∨ (1 ≤ n ∧ n ≤ 1024 ∧ 0 ≤ s ∧ s < n ∧ 0 ≤ g ∧ n < g) := by
    unfold rightS at h; omega
  clear h
  rcases hh with h | ⟨h, h1⟩ | ⟨h, h1, h2⟩ | ⟨h, h1, h2, h3⟩ | ⟨h, h1, h2, h3, h4⟩ | ⟨h, h1, h2, h3, h4, h5⟩
  all_goals
    go_enter Try.func38, Try.ntmps38
    go_wp2
    go_ret
    exact ⟨by first | rfl | (simp; omega), rfl⟩

/-- Next and the reference's Next, either way. -/
structure NextIs (s g m n s' g' f t : Int) : Prop where
  next : ∀ w : World, Calls Try.prog 42 #[.agg #[.int .i64 s, .int .i64 g, .int .u32 m], .int .i64 n] w fun e w' => e = .returned (.tuple #[.agg #[.int .i64 s', .int .i64 g', .int .u32 (m1 m)], .int .i64 f, .int .i64 t]) ∧ Below w.heap.size w w'
  ref : ∀ w : World, Calls Try.prog 43 #[.int .i64 s, .int .i64 g, .int .i64 n] w fun e w' => e = .returned (.tuple #[.int .i64 s', .int .i64 g', .int .i64 f, .int .i64 t]) ∧ w = w'
theorem next_is (s g m n : Int) (h : rightS s g n) (hm : 0 ≤ m ∧ m ≤ 4294967295) : ∃ s' g' f t : Int, NextIs s g m n s' g' f t := by
  by_cases hg : 0 < g
  · exact ⟨_, _, _, _, fun w => next_pos s g m n w h hg hm, fun w => rnext_pos s g n w h hg⟩
  · obtain rfl : g = 0 := by have := h.2.2.2.2.1; omega
    exact ⟨_, _, _, _, fun w => next_zero s m n w h hm, fun w => rnext_zero s n w h⟩

set_option maxHeartbeats 1000000 in
theorem walk_GapMoves (a0 : List Int) (l0 : a0.length = 3) (w0 : ∀ x ∈ a0, (Lit.int .i64 x).wf = true) (w : World) :
    Calls Try.prog 13 #[.agg (a0.map (Value.int .i64)).toArray] w fun e w' => e = .returned (.bool true) ∧ Below w.heap.size w w' := by
  match a0, l0, w0 with
  | [x, y, z], _, w0 =>
    have hx := bounds_i64 (w0 x (by simp))
    have hy := bounds_i64 (w0 y (by simp))
    have hz := bounds_i64 (w0 z (by simp))
    clear w0
    show Calls Try.prog 13 #[.agg #[.int .i64 x, .int .i64 y, .int .i64 z]] w fun e w' => e = .returned (.bool true) ∧ Below w.heap.size w w'
    have hN := tN_b x
    have q1 := Int.emod_nonneg (mx y) (show tN x ≠ 0 by omega)
    have q2 := Int.emod_lt_of_pos (mx y) (show 0 < tN x by omega)
    have q3 := Int.emod_nonneg (mx z) (show tN x + 1 ≠ 0 by omega)
    have q4 := Int.emod_lt_of_pos (mx z) (show 0 < tN x + 1 by omega)
    have hr : rightS (mx y % tN x) (mx z % (tN x + 1)) (tN x) := by unfold rightS; omega
    obtain ⟨s', g', f, t, hnx⟩ := next_is (mx y % tN x) (mx z % (tN x + 1)) (x % 4294967296) (tN x) hr (by omega)
    have HNX := Lib.hid hnx
    clear hnx q1 q2 q3 q4 hr
    by_cases hraw : rightS y z x
    · skip
      go_enter Try.func13, Try.ntmps13
      go_wp2_with fail
      refine (tame_any x y z _).mono ?_
      rintro e w1 ⟨rfl, hb1⟩
      have X1 := (Holds.new w #[.int .i64 x, .int .i64 y, .int .i64 z] 56).below hb1
      have B1 := below_next (below_new (Below.refl _ w) _) hb1
      clear hb1
      generalize tN x = n at *
      generalize mx y % n = s at *
      generalize mx z % (n + 1) = g at *
      generalize x % 4294967296 = m at *
      have S1 := StB.new w1 s g m
      have X2 := X1.alloc (stC s g m)
      have B2 := below_new B1 (stC s g m)
      clear X1 B1
      unfold stC at S1 X2 B2
      go_wp2_with fail
      refine (HNX.out.next _).mono ?_
      rintro e w2 ⟨rfl, hb2⟩
      have S3 := (S1.below hb2).alloc (stC s' g' (m1 m))
      have X3 := (X2.below hb2).alloc (stC s' g' (m1 m))
      have B3 := below_new (below_next B2 hb2) (stC s' g' (m1 m))
      have T3 := StB.new w2 s' g' (m1 m)
      have n0 := (X2.below hb2).lt
      have n1 := (S1.below hb2).lt
      clear S1 X2 B2 hb2
      unfold stC at S3 X3 B3 T3
      obtain ⟨c0, c1, c2⟩ := S3.cells
      obtain ⟨d0, d1, d2⟩ := T3.cells
      obtain ⟨x0, x1, x2⟩ := X3.three
      go_wp2_with fail
      refine (HNX.out.ref _).mono ?_
      rintro e w3 ⟨rfl, rfl⟩
      have em : (m + 1) % 4294967296 = m1 m := rfl
      go_wp2_with fail
      have X4 := X3.alloc (stC y z 0)
      have B4 := below_new B3 (stC y z 0)
      unfold stC at X4 B4
      clear S3 X3 T3 B3 c0 c1 c2 d0 d1 d2 x0 x1 x2
      obtain ⟨s2, g2, f2, t2, hnx2⟩ := next_is y z 0 x hraw (by omega)
      refine (hnx2.next _).mono ?_
      rintro e w5 ⟨rfl, hb5⟩
      rw [show m1 0 = 1 from rfl]
      clear hnx2
      have X5 := X4.below hb5
      have B5 := below_next B4 hb5
      have n5 := X5.lt
      have n6 := B5.size
      clear X4 B4 hb5
      obtain ⟨x0, x1, x2⟩ := X5.three
      go_wp2_with fail
      refine (rright_yes _ _ _ _ hraw).mono ?_
      rintro e w6 ⟨rfl, rfl⟩
      go_wp2_with fail
      refine (wakes6_any _).mono ?_
      rintro e w7 ⟨rfl, hb7⟩
      go_wp2_with fail
      go_ret
      exact ⟨rfl, below_next (below_new B5 _) hb7⟩
    · skip
      go_enter Try.func13, Try.ntmps13
      go_wp2_with fail
      refine (tame_any x y z _).mono ?_
      rintro e w1 ⟨rfl, hb1⟩
      have X1 := (Holds.new w #[.int .i64 x, .int .i64 y, .int .i64 z] 56).below hb1
      have B1 := below_next (below_new (Below.refl _ w) _) hb1
      clear hb1
      generalize tN x = n at *
      generalize mx y % n = s at *
      generalize mx z % (n + 1) = g at *
      generalize x % 4294967296 = m at *
      have S1 := StB.new w1 s g m
      have X2 := X1.alloc (stC s g m)
      have B2 := below_new B1 (stC s g m)
      clear X1 B1
      unfold stC at S1 X2 B2
      go_wp2_with fail
      refine (HNX.out.next _).mono ?_
      rintro e w2 ⟨rfl, hb2⟩
      have S3 := (S1.below hb2).alloc (stC s' g' (m1 m))
      have X3 := (X2.below hb2).alloc (stC s' g' (m1 m))
      have B3 := below_new (below_next B2 hb2) (stC s' g' (m1 m))
      have T3 := StB.new w2 s' g' (m1 m)
      have n0 := (X2.below hb2).lt
      have n1 := (S1.below hb2).lt
      clear S1 X2 B2 hb2
      unfold stC at S3 X3 B3 T3
      obtain ⟨c0, c1, c2⟩ := S3.cells
      obtain ⟨d0, d1, d2⟩ := T3.cells
      obtain ⟨x0, x1, x2⟩ := X3.three
      go_wp2_with fail
      refine (HNX.out.ref _).mono ?_
      rintro e w3 ⟨rfl, rfl⟩
      have em : (m + 1) % 4294967296 = m1 m := rfl
      go_wp2_with fail
      have X4 := X3.alloc (stC y z 0)
      have B4 := below_new B3 (stC y z 0)
      unfold stC at X4 B4
      clear S3 X3 T3 B3 c0 c1 c2 d0 d1 d2 x0 x1 x2
      refine (next_no y z 0 x _ hraw).mono ?_
      rintro e w5 ⟨rfl, hb5⟩
      have X5 := X4.below hb5
      have B5 := below_next B4 hb5
      have n5 := X5.lt
      have n6 := B5.size
      clear X4 B4 hb5
      obtain ⟨x0, x1, x2⟩ := X5.three
      go_wp2_with fail
      refine (rright_no _ _ _ _ hraw).mono ?_
      rintro e w6 ⟨rfl, rfl⟩
      go_wp2_with fail
      refine (wakes6_any _).mono ?_
      rintro e w7 ⟨rfl, hb7⟩
      go_wp2_with fail
      go_ret
      exact ⟨rfl, below_next (below_new B5 _) hb7⟩

end Go.Proofs.Ytlneehkkngnjhaa
