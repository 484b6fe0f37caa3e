/-
  MgBc: GapE, GapTP, GapSP, RgL, RgK, RhM, RhA, RhB, RhC.
-/
import Derived.Test.YtdgcninmpcmdcaaGreatMgY
import Derived.Test.YtdgcninmpcmdcaaGreatGapM
import Derived.Test.YtdgcninmpcmdcaaGreatMgX
import Derived.Test.YtdgcninmpcmdcaaGreatPmN
import Derived.Deep.CutBlock
import Derived.Test.YtdgcninmpcmdcaaGreatMgAd
import Derived.Test.YtdgcninmpcmdcaaGreatMgBb

/-
  The walk of GapMoves: Next of every state.
-/
namespace Go.Proofs.YtdgcninmpcmdcaaGreat
open Go.RowKit

theorem Below_alloc_nx {w w1 : World} (h : Below w.heap.size w w1) (o : Obj) : Below w.heap.size w (w1.alloc o) := h.alloc h.size o

/-- The reference's Next. -/
def rnS (s g n : Int) : Int := if 0 < g then s else (if s + 1 = n then 0 else s + 1)
def rnG (g n : Int) : Int := if 0 < g then g - 1 else n
def rnF (g n : Int) : Int := if 0 < g then g - 1 else n
def rnT (g : Int) : Int := if 0 < g then g else 0

set_option maxHeartbeats 800000 in
theorem rnext_pos (s g n : Int) (w : World) (hs : rightS s g n) (h : 0 < g) :
    Calls Tryz.prog 89 #[.int .i64 s, .int .i64 g, .int .i64 n] w fun e w' => e = .returned (.tuple #[.int .i64 s, .int .i64 (g - 1), .int .i64 (g - 1), .int .i64 g]) ∧ w = w' := by
  obtain ⟨a1, a2, a3, a4, a5, a6⟩ := hs
  go_enter Tryz.func89, Tryz.ntmps89
  go_wp2
  exact bodyPost_ret (v := .tuple #[.int .i64 s, .int .i64 (g - 1), .int .i64 (g - 1), .int .i64 g]) (by simp [results, Tryz.results89, go_sem]) rfl ⟨rfl, rfl⟩
set_option maxHeartbeats 800000 in
theorem rnext_zero (s n : Int) (w : World) (hs : rightS s 0 n) :
    Calls Tryz.prog 89 #[.int .i64 s, .int .i64 0, .int .i64 n] w fun e w' => e = .returned (.tuple #[.int .i64 ((s + 1) % n), .int .i64 n, .int .i64 n, .int .i64 0]) ∧ w = w' := by
  obtain ⟨a1, a2, a3, a4, a5, a6⟩ := hs
  by_cases c : s + 1 = n
  · have hb : (s + 1 == n) = true := by simp [c]
    have e : (s + 1) % n = 0 := by rw [c]; exact Int.emod_self
    rw [e]
    have C := Lib.hid c
    clear c e
    go_enter Tryz.func89, Tryz.ntmps89
    go_wp2
    exact bodyPost_ret (v := .tuple #[.int .i64 0, .int .i64 n, .int .i64 n, .int .i64 0]) (by simp [results, Tryz.results89, go_sem]) rfl ⟨rfl, rfl⟩
  · have hb : (s + 1 == n) = false := by simp [c]
    have e : (s + 1) % n = s + 1 := Int.emod_eq_of_lt (by omega) (by omega)
    rw [e]
    clear c e
    go_enter Tryz.func89, Tryz.ntmps89
    go_wp2
    exact bodyPost_ret (v := .tuple #[.int .i64 (s + 1), .int .i64 n, .int .i64 n, .int .i64 0]) (by simp [results, Tryz.results89, go_sem]) rfl ⟨rfl, rfl⟩

set_option maxHeartbeats 800000 in
theorem rright_yes (s g n : Int) (w : World) (h : rightS s g n) : Calls Tryz.prog 92 #[.int .i64 s, .int .i64 g, .int .i64 n] w fun e w' => e = .returned (.bool true) ∧ w = w' := by
  obtain ⟨h1, h2, h3, h4, h5, h6⟩ := h
  go_enter Tryz.func92, Tryz.ntmps92
  go_wp2
  go_ret
  exact ⟨by first | rfl | (simp; omega), rfl⟩
set_option maxHeartbeats 800000 in
theorem rright_no (s g n : Int) (w : World) (h : ¬ rightS s g n) : Calls Tryz.prog 92 #[.int .i64 s, .int .i64 g, .int .i64 n] w fun e w' => e = .returned (.bool false) ∧ w = w' := by
  have hh : n < 1 ∨ (1 ≤ n ∧ 1024 < n) ∨ (1 ≤ n ∧ n ≤ 1024 ∧ s < 0) ∨ (1 ≤ n ∧ n ≤ 1024 ∧ 0 ≤ s ∧ n ≤ s) ∨ (1 ≤ n ∧ n ≤ 1024 ∧ 0 ≤ s ∧ s < n ∧ g < 0) ∨ (1 ≤ n ∧ n ≤ 1024 ∧ 0 ≤ s ∧ s < n ∧ 0 ≤ g ∧ n < g) := by
    unfold rightS at h; omega
  clear h
  rcases hh with h | ⟨h, h1⟩ | ⟨h, h1, h2⟩ | ⟨h, h1, h2, h3⟩ | ⟨h, h1, h2, h3, h4⟩ | ⟨h, h1, h2, h3, h4, h5⟩
  all_goals
    go_enter Tryz.func92, Tryz.ntmps92
    go_wp2
    go_ret
    exact ⟨by first | rfl | (simp; omega), rfl⟩

/-- Next and the reference's Next, either way. -/
structure NextIs (s g m n s' g' f t : Int) : Prop where
  next : ∀ w : World, Calls Tryz.prog 115 #[.agg #[.int .i64 s, .int .i64 g, .int .u32 m], .int .i64 n] w fun e w' => e = .returned (.tuple #[.agg #[.int .i64 s', .int .i64 g', .int .u32 (m1 m)], .int .i64 f, .int .i64 t]) ∧ Below w.heap.size w w'
  ref : ∀ w : World, Calls Tryz.prog 89 #[.int .i64 s, .int .i64 g, .int .i64 n] w fun e w' => e = .returned (.tuple #[.int .i64 s', .int .i64 g', .int .i64 f, .int .i64 t]) ∧ w = w'
theorem next_is (s g m n : Int) (h : rightS s g n) (hm : 0 ≤ m ∧ m ≤ 4294967295) : ∃ s' g' f t : Int, NextIs s g m n s' g' f t := by
  by_cases hg : 0 < g
  · exact ⟨_, _, _, _, fun w => next_pos s g m n w h hg hm, fun w => rnext_pos s g n w h hg⟩
  · obtain rfl : g = 0 := by have := h.2.2.2.2.1; omega
    exact ⟨_, _, _, _, fun w => next_zero s m n w h hm, fun w => rnext_zero s n w h⟩

end Go.Proofs.YtdgcninmpcmdcaaGreat

/-
  Plain lemmas on the ring: what is at each slot, move by move.
-/
namespace Go.Proofs.YtdgcninmpcmdcaaGreat
open Go.RowKit

/-- What is at a slot: a line, or nothing. -/
def occ (s g n p : Int) : Int := if p = g then -1 else lineI s g n p

theorem slot_ok (s g n i : Int) (h : rightS s g n) (h0 : 0 ≤ i) (h1 : i < n) :
    0 ≤ slotI s g n i ∧ slotI s g n i ≤ n ∧ occ s g n (slotI s g n i) = i := by
  obtain ⟨a1, a2, a3, a4, a5, a6⟩ := h
  have q1 := Int.emod_nonneg (i + s) (show n ≠ 0 by omega)
  have q2 := Int.emod_lt_of_pos (i + s) (show 0 < n by omega)
  have key : ((i + s) % n - s + n) % n = i := by
    have e : (i + s) % n - s + n = (i + s) % n + (n - s) := by omega
    rw [e, Int.emod_add_emod]
    have e2 : i + s + (n - s) = i + n := by omega
    rw [e2, Int.add_emod_right]
    exact Int.emod_eq_of_lt h0 h1
  unfold slotI occ lineI
  generalize (i + s) % n = q at *
  by_cases c : q < g
  · rw [if_pos c]
    refine ⟨by omega, by omega, ?_⟩
    rw [if_neg (by omega), if_neg (by omega)]
    exact key
  · rw [if_neg c]
    refine ⟨by omega, by omega, ?_⟩
    rw [if_neg (by omega), if_pos (by omega)]
    have e : q + 1 - 1 - s + n = q - s + n := by omega
    rw [e]
    exact key

theorem occ_pos (s g n p : Int) (_h : rightS s g n) (hg : 0 < g) :
    occ s (g - 1) n p = if p = g - 1 then -1 else if p = g then occ s g n (g - 1) else occ s g n p := by
  unfold occ lineI
  by_cases c : p = g - 1
  · rw [if_pos c, if_pos c]
  · rw [if_neg c, if_neg c]
    by_cases d : p = g
    · rw [if_pos d, if_pos (show g - 1 < p by omega), if_neg (show ¬ g - 1 = g by omega), if_neg (show ¬ g < g - 1 by omega), d]
    · rw [if_neg d, if_neg d]
      by_cases e : g < p
      · rw [if_pos (by omega), if_pos e]
      · rw [if_neg (by omega), if_neg e]
theorem occ_zero (s n p : Int) (h : rightS s 0 n) (hp : 0 ≤ p) (hpn : p ≤ n) :
    occ ((s + 1) % n) n n p = if p = n then -1 else if p = 0 then occ s 0 n n else occ s 0 n p := by
  obtain ⟨a1, a2, a3, a4, a5, a6⟩ := h
  have key : ∀ q : Int, (q - (s + 1) % n + n) % n = (q - 1 - s + n) % n := by
    intro q
    by_cases c : s + 1 < n
    · rw [Int.emod_eq_of_lt (by omega) c]; congr 1; omega
    · have e : s + 1 = n := by omega
      rw [e, Int.emod_self]
      have e1 : q - 0 + n = q + n := by omega
      have e2 : q - 1 - s + n = q := by omega
      rw [e1, e2, Int.add_emod_right]
  unfold occ lineI
  by_cases c : p = n
  · rw [if_pos c, if_pos c]
  · rw [if_neg c, if_neg c]
    by_cases d : p = 0
    · rw [if_pos d, if_neg (by omega), if_neg (by omega), if_pos (by omega), key, d]
      have e : n - 1 - s + n = (0 - 1 - s + n) + n := by omega
      rw [e, Int.add_emod_right (0 - 1 - s + n) n]
    · rw [if_neg d, if_neg (by omega), if_neg (by omega), if_pos (by omega), key]

/-- A move: the slot that the gap leaves gets what was at the slot to which it goes. -/
theorem occ_at (n j p : Nat) (h1 : 1 ≤ n) (h2 : n ≤ 1024) (hp : p ≤ n) :
    occ (sAt n (j + 1)) (gAt n (j + 1)) n p = if (p : Int) = gAt n (j + 1) then -1 else if (p : Int) = gAt n j then occ (sAt n j) (gAt n j) n (gAt n (j + 1)) else occ (sAt n j) (gAt n j) n p := by
  have hr := at_right n j h1 h2
  by_cases hg : 0 < gAt n j
  · obtain ⟨e1, e2⟩ := at_pos n j h1 hg
    rw [e1, e2]
    exact occ_pos _ _ _ _ hr hg
  · have h0 : gAt n j = 0 := by have := hr.2.2.2.2.1; omega
    obtain ⟨e1, e2⟩ := at_zero n j h1 h0
    rw [e1, e2, h0]
    rw [h0] at hr
    exact occ_zero _ _ _ hr (by omega) (by omega)
theorem gap_moves (n j : Nat) (h1 : 1 ≤ n) (h2 : n ≤ 1024) : gAt n (j + 1) ≠ gAt n j := by
  have hr := at_right n j h1 h2
  by_cases hg : 0 < gAt n j
  · obtain ⟨e1, e2⟩ := at_pos n j h1 hg
    omega
  · have h0 : gAt n j = 0 := by have := hr.2.2.2.2.1; omega
    obtain ⟨e1, e2⟩ := at_zero n j h1 h0
    omega

/-- Every state is one behind some moves. -/
theorem at_any (s g n : Nat) (h : rightS s g n) : sAt n (s * (n + 1) + (n - g)) = s ∧ gAt n (s * (n + 1) + (n - g)) = g := by
  obtain ⟨a1, a2, a3, a4, a5, a6⟩ := h
  have hlt : n - g < n + 1 := by omega
  have e1 : (s * (n + 1) + (n - g)) / (n + 1) = s := by
    rw [Nat.mul_comm, Nat.mul_add_div (by omega), Nat.div_eq_of_lt hlt, Nat.add_zero]
  have e2 : (s * (n + 1) + (n - g)) % (n + 1) = n - g := by
    rw [Nat.mul_comm, Nat.mul_add_mod, Nat.mod_eq_of_lt hlt]
  unfold sAt gAt
  rw [e1, e2]
  constructor
  · rw [Nat.mod_eq_of_lt (by omega)]
  · omega
/-- Behind as many moves as there are slots. -/
theorem at_round (n j : Nat) (_h1 : 1 ≤ n) : sAt n (j + (n + 1)) = (sAt n j + 1) % n ∧ gAt n (j + (n + 1)) = gAt n j := by
  unfold sAt gAt
  rw [Nat.add_div_right _ (by omega), Nat.add_mod_right]
  refine ⟨?_, rfl⟩
  have : (j / (n + 1) + 1) % n = (j / (n + 1) % n + 1) % n := by rw [Nat.mod_add_mod]
  rw [this]; rfl

/-- One move: the new gap is where it goes from; the old one where to. -/
theorem next_at2 (m j : Nat) (M : Int) (w : World) (h1 : 1 ≤ m) (h2 : m ≤ 1024) (hM : 0 ≤ M ∧ M ≤ 4294967295) :
    Calls Tryz.prog 115 #[.agg #[.int .i64 (sAt m j), .int .i64 (gAt m j), .int .u32 M], .int .i64 (m : Int)] w fun e w' =>
      e = .returned (.tuple #[.agg #[.int .i64 (sAt m (j + 1)), .int .i64 (gAt m (j + 1)), .int .u32 (m1 M)], .int .i64 (gAt m (j + 1)), .int .i64 (gAt m j)]) ∧ Below w.heap.size w w' := by
  have hr := at_right m j h1 h2
  by_cases hg : 0 < gAt m j
  · obtain ⟨e1, e2⟩ := at_pos m j h1 hg
    rw [e1, e2]
    exact next_pos _ _ _ _ w hr hg hM
  · have h0 : gAt m j = 0 := by have := hr.2.2.2.2.1; omega
    obtain ⟨e1, e2⟩ := at_zero m j h1 h0
    rw [e1, e2, h0]
    rw [h0] at hr
    exact next_zero _ _ _ w hr hM

/-- The row of what is at the slots. -/
def RowIs (xs : List Value) (s g : Int) (n : Nat) : Prop := xs.length = n + 1 ∧ ∀ p : Nat, p ≤ n → xs[p]? = some (.int .i64 (occ s g n p))
theorem RowIs.next {xs : List Value} {n j f t : Nat} (h : RowIs xs (sAt n j) (gAt n j) n) (h1 : 1 ≤ n) (h2 : n ≤ 1024) (hf : gAt n (j + 1) = f) (ht : gAt n j = t) (hfn : f ≤ n) (htn : t ≤ n) :
    RowIs ((xs.set t (.int .i64 (occ (sAt n j) (gAt n j) n f))).set f (.int .i64 (-1))) (sAt n (j + 1)) (gAt n (j + 1)) n := by
  refine ⟨by simpa using h.1, fun p hp => ?_⟩
  have hl := h.1
  rw [occ_at n j p h1 h2 hp, hf, ht]
  by_cases c : p = f
  · subst c
    rw [List.getElem?_set_self (by simp; omega), if_pos rfl]
  · rw [List.getElem?_set_ne (fun e => c e.symm), if_neg (by omega)]
    by_cases d : p = t
    · subst d
      rw [List.getElem?_set_self (by omega), if_pos rfl]
    · rw [List.getElem?_set_ne (fun e => d e.symm), if_neg (by omega), ← ht]
      exact h.2 p hp

end Go.Proofs.YtdgcninmpcmdcaaGreat

/-
  The reference's list of a ring's slots; what a slot holds, and back.
-/
namespace Go.Proofs.YtdgcninmpcmdcaaGreat
open Go.RowKit

theorem slot_occ (s g n p : Int) (h : rightS s g n) (h0 : 0 ≤ p) (h1 : p ≤ n) (h2 : p ≠ g) : 0 ≤ lineI s g n p ∧ lineI s g n p < n ∧ slotI s g n (lineI s g n p) = p := by
  obtain ⟨a1, a2, a3, a4, a5, a6⟩ := h
  have key : ∀ q : Int, 0 ≤ q → q < n → ((q - s + n) % n + s) % n = q := by
    intro q hq hq2
    rw [Int.emod_add_emod, show q - s + n + s = q + n by omega, Int.add_emod_right]
    exact Int.emod_eq_of_lt hq hq2
  unfold slotI lineI
  refine ⟨Int.emod_nonneg _ (by omega), Int.emod_lt_of_pos _ (by omega), ?_⟩
  by_cases c : g < p
  · rw [if_pos c, key (p - 1) (by omega) (by omega), if_neg (by omega)]
    omega
  · rw [if_neg c, key p (by omega) (by omega), if_pos (by omega)]
theorem occ_b (s g n p : Int) (h : rightS s g n) (h0 : 0 ≤ p) (h1 : p ≤ n) : -1 ≤ occ s g n p ∧ occ s g n p < n := by
  unfold occ
  have := h.1
  by_cases c : p = g
  · rw [if_pos c]; omega
  · rw [if_neg c]
    have := slot_occ s g n p h h0 h1 c
    omega
/-- A row into which the lines below i have been put. -/
def PutIs (xs : List Value) (s g : Int) (n : Nat) (i : Nat) : Prop := xs.length = n + 1 ∧ ∀ p : Nat, p ≤ n → occ s g n p < i → xs[p]? = some (.int .i64 (occ s g n p))
theorem PutIs.done {xs : List Value} {s g : Int} {n : Nat} (h : PutIs xs s g n n) (hr : rightS s g n) : RowIs xs s g n :=
  ⟨h.1, fun p hp => h.2 p hp (occ_b s g n p hr (by omega) (by omega)).2⟩
theorem PutIs.step {xs : List Value} {s g : Int} {n i p : Nat} (h : PutIs xs s g n i) (hr : rightS s g n) (hi : i < n) (hp : slotI s g n i = p) : PutIs (xs.set p (.int .i64 (i : Int))) s g n (i + 1) := by
  have hs := slot_ok s g n i hr (by omega) (by omega)
  rw [hp] at hs
  refine ⟨by simpa using h.1, fun q hq ho => ?_⟩
  have hl := h.1
  by_cases e : q = p
  · subst e
    rw [List.getElem?_set_self (by omega), hs.2.2]
  · rw [List.getElem?_set_ne (fun e' => e e'.symm)]
    refine h.2 q hq ?_
    by_cases c : (q : Int) = g
    · unfold occ; rw [if_pos c]; omega
    · have ho2 := slot_occ s g n q hr (by omega) (by omega) c
      have : occ s g n q ≠ i := by
        intro e2
        have e3 : occ s g n q = lineI s g n q := by unfold occ; rw [if_neg c]
        rw [e3] at e2
        rw [e2, hp] at ho2
        exact e (by omega)
      omega

set_option maxRecDepth 100000 in
set_option maxHeartbeats 4000000 in
theorem rslots (s g n : Nat) (w : World) (h : rightS s g n) :
    Calls Tryz.prog 93 #[.int .i64 s, .int .i64 g, .int .i64 n] w fun e w' => ∃ xs : List Value, e = .returned (.slice (some ⟨w.heap.size, 0, none⟩) (n + 1) (n + 1)) ∧
      w'.ownsRow w.heap.size 3 1 (.slice (some ⟨w.heap.size, 0, none⟩) (n + 1) (n + 1)) (n + 1) xs ∧ RowIs xs s g n ∧ Below w.heap.size w w' := by
  obtain ⟨i0, hi, hz0, hz1, hz2⟩ := info_parts infoInt
  have H := Lib.hid h
  obtain ⟨a1, a2, a3, a4, a5, a6⟩ := h
  obtain ⟨N1, hN1⟩ : ∃ N1 : Nat, N1 = n + 1 := ⟨_, rfl⟩
  have eN1 : (n : Int) + 1 = (N1 : Int) := by omega
  rw [← hN1]
  have MF := Lib.hid (fun (wm : World) (hown : wm.ownsRow w.heap.size 3 1 (.slice (some ⟨w.heap.size, 0, none⟩) N1 N1) N1 (madeCells (Value.cells (.int .i64 0)) (N1 * 1)).toList) (hgrow : w.grownBy wm none) => made_facts (g := g) (u := .int .i64 (-1)) hown rfl hgrow (by omega))
  have HN1 := Lib.hid hN1
  clear hN1
  go_enter Tryz.func93, Tryz.ntmps93
  go_wp2_with (refine wpList_make_full _ rfl _ _ 52 rfl w.heap.size 3 i0 (.int .i64 0) 1 Tryz.underlying52 hi hz0 hz1 .i64 .i64 _ _ N1 rfl rfl rfl rfl (by rw [hz2]; omega) (by unfold maxLen; omega) (by simp) ?_; intro wm hown hgrow; obtain ⟨x0, ys, hl0, hg0, hc0, hf0, ho1, hb1⟩ := MF.out wm hown hgrow; clear hown hgrow)
  have hp0 : PutIs ys s g n 0 := by
    refine ⟨by rw [hl0]; exact HN1.out, fun p hp ho => ?_⟩
    have hb := occ_b s g n p H.out (by omega) (by omega)
    by_cases c : (p : Int) = g
    · obtain rfl : p = g := by omega
      rw [hg0]; unfold occ; rw [if_pos rfl]
    · have := slot_occ s g n p H.out (by omega) (by omega) c
      unfold occ at ho
      rw [if_neg c] at ho
      omega
  have hsz := hb1.size
  clear MF hc0 hf0 hg0 hl0
  generalize wm.setCell ⟨w.heap.size, g, none⟩ (.int .i64 (-1)) = wv at *
  go_loopw [8] (fun i wr => ∃ (k : Nat) (xs : List Value), k ≤ n ∧ i = .int .i64 k ∧ wr.ownsRow w.heap.size 3 1 (.slice (some ⟨w.heap.size, 0, none⟩) N1 N1) N1 xs ∧ PutIs xs s g n k ∧ Below w.heap.size w wr) (fun i _ => n - (intOf i).toNat)
  case atStart => exact ⟨0, ys, by omega, rfl, ho1, hp0, hb1⟩
  case round =>
    clear ho1 hp0 hb1
    obtain ⟨k, xs, hk, rfl, hown, hput, B2⟩ := hrel
    have hl : xs.length = n + 1 := hput.1
    by_cases hlt : k < n
    · have hsl := slot_ok s g n k H.out (by omega) (by omega)
      obtain ⟨p, hp⟩ := Int.eq_ofNat_of_zero_le hsl.1
      have hpn : p < N1 := by have := hsl.2.1; have := HN1.out; omega
      have hst := hown.stored p (.int .i64 (k : Int))
      have RR := Lib.hid (And.intro hst.1 (And.intro (hput.step H.out (by omega) hp) (B2.setCell (p := ⟨w.heap.size, p, none⟩) (by simp) (.int .i64 (k : Int)))))
      have hc := hown.cellAt p (by have := HN1.out; omega)
      rw [List.getElem?_eq_getElem (by have := HN1.out; omega)] at hc
      have hf := hown.frozenAt p
      have q1 := Int.emod_nonneg ((k : Int) + s) (show (n : Int) ≠ 0 by omega)
      have q2 := Int.emod_lt_of_pos ((k : Int) + s) (show 0 < (n : Int) by omega)
      obtain ⟨q, hq⟩ := Int.eq_ofNat_of_zero_le q1
      generalize xs[p] = u at *
      clear hst hsl hput hown B2 hl
      unfold slotI at hp
      rw [hq] at hp q2
      by_cases c : (q : Int) < g
      · rw [if_pos c] at hp
        obtain rfl : q = p := by omega
        have hd : decide ((g : Int) ≤ (q : Int)) = false := by simp; omega
        clear hp
        go_wp2
        go_roundw
        case rel => exact ⟨k + 1, _, by omega, by go_num, RR.out.1, RR.out.2.1, RR.out.2.2⟩
        case measure => simp [intOf]; omega
      · rw [if_neg c] at hp
        have hd : decide ((g : Int) ≤ (q : Int)) = true := by simp; omega
        go_wp2
        go_roundw
        case rel => exact ⟨k + 1, _, by omega, by go_num, RR.out.1, RR.out.2.1, RR.out.2.2⟩
        case measure => simp [intOf]; omega
    · obtain ⟨n', hn'⟩ : ∃ n', n' = n := ⟨_, rfl⟩
      have hkn : k = n := by omega
      have RR := Lib.hid (And.intro hown (And.intro (show PutIs xs s g n n by rw [← hkn]; rwa [hkn] at hput ⊢) B2))
      go_wp2
      go_ret
      exact ⟨xs, rfl, RR.out.1, RR.out.2.1.done H.out, RR.out.2.2⟩

end Go.Proofs.YtdgcninmpcmdcaaGreat

/-
  RingEven: the list of stays, half done; what holds behind n writes.
-/
namespace Go.Proofs.YtdgcninmpcmdcaaGreat
open Go.RowKit
set_option linter.unusedVariables false

def newStay (l psi n i : Nat) (st : List Nat) : Nat := if slotN l (n / psi) i = slotN l (befN psi n) i then st.getD i 0 + 1 else 1
def stpL (l psi n : Nat) (st : List Nat) (i : Nat) : List Nat := (List.range l).map fun j => if j < i then newStay l psi n j st else st.getD j 0
theorem stpL_zero {l psi n : Nat} {st : List Nat} (h : st.length = l) : stpL l psi n st 0 = st := by
  unfold stpL
  apply List.ext_getElem (by simp [h])
  intro i h1 h2
  simp [List.getD_eq_getElem?_getD, List.getElem?_eq_getElem h2]
theorem stpL_all {l psi n : Nat} {st : List Nat} : stpL l psi n st l = stepStay l psi n st := by
  unfold stpL stepStay
  apply List.map_congr_left
  intro i hi
  rw [if_pos (List.mem_range.1 hi)]
  rfl
theorem stpL_get {l psi n i : Nat} {st : List Nat} (hi : i < l) : (stpL l psi n st i)[i]? = some (st.getD i 0) := by
  unfold stpL
  rw [List.getElem?_map, List.getElem?_range hi]
  simp
theorem stpL_get1 {l psi n i : Nat} {st : List Nat} (hi : i < l) : (stpL l psi n st (i + 1))[i]? = some (newStay l psi n i st) := by
  unfold stpL
  rw [List.getElem?_map, List.getElem?_range hi]
  simp
theorem stpL_set {l psi n i : Nat} {st : List Nat} (hi : i < l) : (stpL l psi n st i).set i (newStay l psi n i st) = stpL l psi n st (i + 1) := by
  unfold stpL
  apply List.ext_getElem (by simp)
  intro j h1 h2
  simp at h2
  rw [List.getElem_set]
  by_cases c : i = j
  · subst c
    simp
  · rw [if_neg c]
    simp only [List.getElem_map, List.getElem_range]
    by_cases d : j < i
    · rw [if_pos d, if_pos (by omega)]
    · rw [if_neg d, if_neg (by omega)]
theorem newStay_mem {l psi n i : Nat} (hi : i < l) : newStay l psi n i (stayN l psi n) ∈ stayN l psi (n + 1) := by
  rw [stayN]
  exact List.mem_map.2 ⟨i, List.mem_range.2 hi, rfl⟩
theorem getD_incN {m : List Nat} {k : Nat} (h : k < m.length) : m[k]? = some (m.getD k 0) := by
  simp [List.getD_eq_getElem?_getD, List.getElem?_eq_getElem h]
set_option maxRecDepth 100000 in
theorem st_ne (s g s' g' : Int) (m m' : Int) (h : m ≠ m') (W : World) : (binOp .neq 80 (.agg #[.int .i64 s, .int .i64 g, .int .u32 m]) (.agg #[.int .i64 s', .int .i64 g', .int .u32 m'])).run Tryz.prog W = .ok (.bool true) W := by
  have h2 : (m == m') = false := by simpa using h
  by_cases c : s = s'
  · by_cases d : g = g'
    · subst c; subst d
      simp [go_sem, h2]
    · subst c
      have d2 : (g == g') = false := by simpa using d
      simp [go_sem, d2]
  · have c2 : (s == s') = false := by simpa using c
    simp [go_sem, c2]
theorem slot7 {P : PlanR} (hP : OkR P) (j i : Nat) (hi : i < P.l) (W : World) : Calls Tryz.prog 102 #[.agg #[.int .i64 (sAt P.l j), .int .i64 (gAt P.l j), .int .u32 (j : Int)], .int .i64 (P.l : Int), .int .i64 (i : Int)] W fun e w' => e = .returned (.int .i64 ((slotN P.l j i : Nat) : Int)) ∧ Below W.heap.size W w' := by
  rw [← slotJ_N P j i hP.l1]
  exact slot_yes _ _ _ _ _ W (at_right P.l j hP.l1 hP.l2) (by omega) (by omega)
theorem getD_le {m : List Nat} {k b : Nat} (h : ∀ x ∈ m, x ≤ b) : m.getD k 0 ≤ b := by
  by_cases c : k < m.length
  · rw [List.getD_eq_getElem?_getD, List.getElem?_eq_getElem c]
    exact h _ (List.getElem_mem c)
  · simp [List.getD_eq_getElem?_getD, List.getElem?_eq_none (by omega : m.length ≤ k)]
theorem mvdN_le (l psi : Nat) : ∀ n, ∀ x ∈ mvdN l psi n, x ≤ n
  | 0, x, h => by rw [mvdN] at h; have := List.eq_of_mem_replicate h; omega
  | n + 1, x, h => by
    rw [mvdN] at h
    split at h
    · have := mvdN_le l psi n x h; omega
    · rcases List.mem_or_eq_of_mem_set h with q | q
      · have := mvdN_le l psi n x q; omega
      · have := getD_le (k := l - befN psi n % (l + 1)) (mvdN_le l psi n); omega
theorem stayN_le (l psi : Nat) : ∀ n, ∀ x ∈ stayN l psi n, x ≤ n
  | 0, x, h => by rw [stayN] at h; have := List.eq_of_mem_replicate h; omega
  | n + 1, x, h => by
    rw [stayN] at h
    obtain ⟨i, _, q⟩ := List.mem_map.1 h
    split at q
    · have := getD_le (k := i) (stayN_le l psi n); omega
    · omega
/-- Behind n writes. -/
structure Evn (w : World) (kb pb mb sb lb : Nat) (q : BkA) (a : DevA) (P : PlanR) (psi n : Nat) (D : DevS) (wr : World) : Prop where
  dev : DevIs wr a D
  rg : RgIs wr kb q a P B0 (64 + 192 * n) (befN psi n) (sinceN psi n)
  plan : Holds wr pb #[.int .i64 P.a, .int .i64 (P.l : Int), .int .i64 0, .int .i64 P.psi] 60
  gr : Gr [] w wr
  bd : Bd D (12000 + 4200 * n)
  mv : Holds wr mb (rowL (mvdN P.l psi n)) 3
  sy : Holds wr sb (rowL (stayN P.l psi n)) 3
  ls : Holds wr lb #[.int .i64 (sAt P.l (befN psi n)), .int .i64 (gAt P.l (befN psi n)), .int .u32 ((befN psi n : Nat) : Int)] 80
  gd : GdR P D (befN psi n)
  dn : D.n = 20
theorem Evn.next0 {w wr w2 : World} {kb pb mb sb lb : Nat} {q : BkA} {a : DevA} {P : PlanR} {psi n : Nat} {D : DevS} (h : Evn w kb pb mb sb lb q a P psi n D wr) (g : Gr [] wr w2) : Evn w kb pb mb sb lb q a P psi n D w2 :=
  ⟨h.dev.gr0 g, h.rg.gr0 g, h.plan.gr0 g, h.gr.trans g, h.bd, h.mv.gr0 g, h.sy.gr0 g, h.ls.gr0 g, h.gd, h.dn⟩
/-- Within the turn of write n, behind the write: with so much of the two lists done; J moves are done, b were before it. -/
structure Evm (w : World) (kb pb mb sb lb bb : Nat) (q : BkA) (a : DevA) (P : PlanR) (n J b c : Nat) (D : DevS) (ms ss : List Nat) (wr : World) : Prop where
  dev : DevIs wr a D
  rg : RgIs wr kb q a P B0 (64 + 192 * n + 192) J c
  plan : Holds wr pb #[.int .i64 P.a, .int .i64 (P.l : Int), .int .i64 0, .int .i64 P.psi] 60
  gr : Gr [] w wr
  mv : Holds wr mb (rowL ms) 3
  sy : Holds wr sb (rowL ss) 3
  ls : Holds wr lb #[.int .i64 (sAt P.l b), .int .i64 (gAt P.l b), .int .u32 (b : Int)] 80
  bf : Holds wr bb #[.int .i64 (sAt P.l b), .int .i64 (gAt P.l b), .int .u32 (b : Int)] 80
section
variable {w wr w2 : World} {kb pb mb sb lb bb : Nat} {q : BkA} {a : DevA} {P : PlanR} {n J b c : Nat} {D : DevS} {ms ss : List Nat}
theorem Evm.next0 (h : Evm w kb pb mb sb lb bb q a P n J b c D ms ss wr) (g : Gr [] wr w2) : Evm w kb pb mb sb lb bb q a P n J b c D ms ss w2 :=
  ⟨h.dev.gr0 g, h.rg.gr0 g, h.plan.gr0 g, h.gr.trans g, h.mv.gr0 g, h.sy.gr0 g, h.ls.gr0 g, h.bf.gr0 g⟩
theorem Evm.setM (h : Evm w kb pb mb sb lb bb q a P n J b c D ms ss wr) (k x : Nat) (h1 : w.heap.size ≤ mb ∧ mb ≠ pb ∧ mb ∉ kb :: (q.all ++ a.all)) (h2 : sb ≠ mb) (h3 : lb ≠ mb) (h4 : bb ≠ mb) : Evm w kb pb mb sb lb bb q a P n J b c D (ms.set k x) ss (wr.setCell ⟨mb, k, none⟩ (.int .i64 (x : Int))) := by
  have g : Gr [mb] wr (wr.setCell ⟨mb, k, none⟩ (.int .i64 (x : Int))) := (Gr.refl [mb] wr).setCell (.inl (by simp)) _
  have hq : ∀ y ∈ kb :: (q.all ++ a.all), y ≠ mb := fun y hy e => h1.2.2 (e ▸ hy)
  exact ⟨h.dev.gr g (fun y hy e => hq y (by simp [hy]) (by simpa using e)), h.rg.gr g (fun e => hq kb (by simp) (by simpa using e)) (fun y hy e => hq y (by simp [hy]) (by simpa using e)), h.plan.gr g (by simp; exact fun e => h1.2.1 e.symm), h.gr.setCell (.inr h1.1) _, by rw [← rowL_set]; exact h.mv.set k _, h.sy.gr g (by simp; exact h2), h.ls.gr g (by simp; exact h3), h.bf.gr g (by simp; exact h4)⟩
theorem Evm.setS (h : Evm w kb pb mb sb lb bb q a P n J b c D ms ss wr) (k x : Nat) (h1 : w.heap.size ≤ sb ∧ sb ≠ pb ∧ sb ∉ kb :: (q.all ++ a.all)) (h2 : mb ≠ sb) (h3 : lb ≠ sb) (h4 : bb ≠ sb) : Evm w kb pb mb sb lb bb q a P n J b c D ms (ss.set k x) (wr.setCell ⟨sb, k, none⟩ (.int .i64 (x : Int))) := by
  have g : Gr [sb] wr (wr.setCell ⟨sb, k, none⟩ (.int .i64 (x : Int))) := (Gr.refl [sb] wr).setCell (.inl (by simp)) _
  have hq : ∀ y ∈ kb :: (q.all ++ a.all), y ≠ sb := fun y hy e => h1.2.2 (e ▸ hy)
  exact ⟨h.dev.gr g (fun y hy e => hq y (by simp [hy]) (by simpa using e)), h.rg.gr g (fun e => hq kb (by simp) (by simpa using e)) (fun y hy e => hq y (by simp [hy]) (by simpa using e)), h.plan.gr g (by simp; exact fun e => h1.2.1 e.symm), h.gr.setCell (.inr h1.1) _, h.mv.gr g (by simp; exact h2), by rw [← rowL_set]; exact h.sy.set k _, h.ls.gr g (by simp; exact h3), h.bf.gr g (by simp; exact h4)⟩
end
/-- The turn's end: last is the state of now. -/
theorem evn_next {w wr : World} {kb pb mb sb lb bb : Nat} {q : BkA} {a : DevA} {P : PlanR} {psi n J b : Nat} {D : DevS} (h : Evm w kb pb mb sb lb bb q a P n J b (n % psi + 1) D (mvdN P.l psi (n + 1)) (stpL P.l psi n (stayN P.l psi n) P.l) wr)
    (h1 : befN psi (n + 1) = J) (h2 : sinceN psi (n + 1) = n % psi + 1) (hb : Bd D (12000 + 4200 * n + 4200)) (hg : GdR P D J) (hn : D.n = 20)
    (hl : w.heap.size ≤ lb ∧ lb ≠ pb ∧ lb ∉ kb :: (q.all ++ a.all) ∧ lb ≠ mb ∧ lb ≠ sb) (ho : w.heap.size ≤ pb ∧ w.heap.size ≤ mb ∧ w.heap.size ≤ sb) (hs : stpL P.l psi n (stayN P.l psi n) P.l = stepStay P.l psi n (stayN P.l psi n)) :
    Evn w kb pb mb sb lb q a P psi (n + 1) D (((wr.setCell ⟨lb, 0, none⟩ (.int .i64 (sAt P.l J))).setCell ⟨lb, 1, none⟩ (.int .i64 (gAt P.l J))).setCell ⟨lb, 2, none⟩ (.int .u32 (J : Int))) := by
  have g : Gr [lb] wr (((wr.setCell ⟨lb, 0, none⟩ (.int .i64 (sAt P.l J))).setCell ⟨lb, 1, none⟩ (.int .i64 (gAt P.l J))).setCell ⟨lb, 2, none⟩ (.int .u32 (J : Int))) := (((Gr.refl [lb] wr).setCell (.inl (by simp)) _).setCell (.inl (by simp)) _).setCell (.inl (by simp)) _
  have hq : ∀ y ∈ kb :: (q.all ++ a.all), y ≠ lb := fun y hy e => hl.2.2.1 (e ▸ hy)
  refine ⟨h.dev.gr g (fun y hy e => hq y (by simp [hy]) (by simpa using e)), ?_, h.plan.gr g (by simp; exact fun e => hl.2.1 e.symm), ((h.gr.setCell (.inr hl.1) _).setCell (.inr hl.1) _).setCell (.inr hl.1) _, hb.mono (by omega), h.mv.gr g (by simp; exact fun e => hl.2.2.2.1 e.symm), ?_, ?_, by rw [h1]; exact hg, hn⟩
  · rw [h1, h2, show 64 + 192 * (n + 1) = 64 + 192 * n + 192 by omega]
    exact h.rg.gr g (fun e => hq kb (by simp) (by simpa using e)) (fun y hy e => hq y (by simp [hy]) (by simpa using e))
  · rw [stayN, ← hs]
    exact h.sy.gr g (by simp; exact fun e => hl.2.2.2.2 e.symm)
  · rw [h1]
    exact ((h.ls.set 0 _).set 1 _).set 2 _
end Go.Proofs.YtdgcninmpcmdcaaGreat

/-
  RingEven.
-/
namespace Go.Proofs.YtdgcninmpcmdcaaGreat
open Go.RowKit
set_option linter.unusedVariables false

theorem minIs7 (P : Program) (L m k : Nat) (kI : Int) (hk : kI = k) (h : m = min L k) (ts : Array TypeId) (t : TypeId) (w : World) : (Builtin.min_ ts t #[.int .i64 (L : Int), .int .i64 kI]).run P w = .ok (.int .i64 (m : Int)) w := by
  subst hk
  rw [run_min_int2]
  have : (if ((k : Nat) : Int) < (L : Int) then ((k : Nat) : Int) else (L : Int)) = (m : Int) := by split <;> omega
  rw [this]
section
variable {w w' : World} {kb : Nat} {q : BkA} {a : DevA} {P : PlanR} {m n cc : Nat} {D : DevS}
/-- The n-th write. -/
theorem rg_step (hP : OkR P) {psi : Nat} (hpsi : P.psi = (psi : Int)) (G : GdR P D (befN psi n)) (i : Nat) (s : ByteArray) (hs : s.size = 64) (hi : i < P.l) (hn : n < 1000) :
    ∃ D3, GdR P D3 (n / psi) ∧ D3.n = D.n ∧ ∀ (w : World) (m cc : Nat), RgIs w kb q a P B0 m (befN psi n) (sinceN psi n) → DevIs w a D → Bd D cc → cc < 550000 → m < 70000 →
      Calls Tryz.prog 9 #[.pointer (some ⟨kb, 0, none⟩), .int .i64 (i : Int), .string s] w fun e w' => e = .returned (.int .i64 0) ∧ DevIs w' a D3 ∧ Bd D3 (cc + 4200) ∧ RgIs w' kb q a P B0 (m + 192) (n / psi) (n % psi + 1) ∧ Gr (kb :: (q.all ++ a.all)) w w' := by
  have hp1 : 1 ≤ psi := by have := hP.p1; omega
  obtain ⟨f1, f2, f3, f4⟩ := bef_step psi n hp1
  have hbl : befN psi n ≤ n := by
    unfold befN
    split
    · omega
    · exact Nat.le_trans (Nat.div_le_self _ _) (by omega)
  by_cases c : psi ≤ sinceN psi n
  · obtain ⟨g1, g2⟩ := f1 c
    obtain ⟨D1, D2, a1, a2, a3, a4, a5, a6, a7, a8⟩ := gd_move hP G (by omega)
    rw [g1] at a6
    obtain ⟨D3, b1, b2, b3, b4, b5⟩ := gd_line hP a6 (slotJ_in hP (n / psi) i hi).1 (slotJ_in hP (n / psi) i hi).2 hs
    refine ⟨D3, b2, b3.trans a5, fun w m cc r d hb hcc hm => ?_⟩
    have := rgwrite_mv i s r d hb hcc hm hi hs (by omega) (by omega) G.fit a4 a5 a1 a2 (by rw [g1] at a3 ⊢; exact a3) (by rw [g1]; exact b1)
    rw [g1] at this
    rw [g2]
    exact this
  · obtain ⟨g1, g2⟩ := f2 (by omega)
    obtain ⟨D3, b1, b2, b3, b4, b5⟩ := gd_line hP G (slotJ_in hP (befN psi n) i hi).1 (slotJ_in hP (befN psi n) i hi).2 hs
    rw [g1] at b2
    refine ⟨D3, b2, b3, fun w m cc r d hb hcc hm => ?_⟩
    have := rgwrite_st i s r d hb hcc hm hi hs (by omega) G.fit b1
    rw [g1, g2] at this
    exact this
end
theorem maxIs7 (P : Program) (L m k : Nat) (h : m = max L k) (ts : Array TypeId) (t : TypeId) (w : World) : (Builtin.max_ ts t #[.int .i64 (L : Int), .int .i64 (k : Int)]).run P w = .ok (.int .i64 (m : Int)) w := by
  rw [run_max_int2]
  have : (if ((k : Nat) : Int) > (L : Int) then ((k : Nat) : Int) else (L : Int)) = (m : Int) := by split <;> omega
  rw [this]
theorem mvd_even {l psi n : Nat} (h1 : 1 ≤ l) (h2 : l ≤ 5) (h3 : 1 ≤ psi) (h4 : psi ≤ 4) (h5 : n ≤ 120) : ∀ x ∈ mvdN l psi n, ∀ y ∈ mvdN l psi n, x ≤ y + 1 := by
  by_cases c : n = 0
  · subst c
    intro x hx y hy
    have := mvdN_le l psi 0 x hx
    omega
  · exact (even_all h1 h2 h3 h4 h5 (by omega)).2
theorem wq7 (J : Nat) (h : J < 1000) : wrap64 (J : Int) % 4294967296 = (J : Int) := by unfold wrap64; omega
theorem enc20 (i : Nat) (h : i < 20) : (Utf8.encode (97 + (i : Int))).size ≤ 4 := by
  have : ∀ j : Fin 20, (Utf8.encode (97 + ((j.val : Nat) : Int))).size ≤ 4 := by decide +kernel
  exact this ⟨i, h⟩
theorem smallR_ok (x0 x1 x2 x3 : Int) : (smallR x0 x1 x2 x3).l ≤ 5 ∧ 1 ≤ (smallR x0 x1 x2 x3).l ∧ 0 ≤ (smallR x0 x1 x2 x3).a ∧ (smallR x0 x1 x2 x3).a ≤ 1 ∧ 1 ≤ (smallR x0 x1 x2 x3).psi ∧ (smallR x0 x1 x2 x3).psi ≤ 4 ∧ 0 ≤ (smallR x0 x1 x2 x3).s ∧ (smallR x0 x1 x2 x3).s ≤ 8 := by
  unfold smallR
  simp only
  have h0 := mx_nonneg x0
  have h1 := mx_nonneg x1
  have h2 := mx_nonneg x2
  have h3 := mx_nonneg x3
  omega
set_option maxRecDepth 100000 in
set_option maxHeartbeats 8000000 in
theorem small07 (x0 x1 x2 x3 : Int) (w : World) : Calls Tryz.prog 5 #[.agg #[.int .i64 x0, .int .i64 x1, .int .i64 x2, .int .i64 x3]] w fun e w' => e = .returned (planRV (smallR x0 x1 x2 x3)) ∧ Gr [] w w' := by
  have hmx := max0 Tryz.prog
  have h0 := mx_nonneg x0
  have h1 := mx_nonneg x1
  have h2 := mx_nonneg x2
  have h3 := mx_nonneg x3
  have hl : (((1 + mx x1 % 5).toNat : Nat) : Int) = 1 + mx x1 % 5 := by omega
  unfold planRV smallR
  simp only
  rw [hl]
  clear hl
  go_enter Tryz.func5, Tryz.ntmps5
  go_wp2_with fail
  exact bodyPost_ret (v := .agg #[.int .i64 (mx x0 % 2), .int .i64 (1 + mx x1 % 5), .int .i64 (mx x2 % 9), .int .i64 (1 + mx x3 % 4)]) (by simp [results, Tryz.results5, go_sem]) rfl ⟨rfl, ((Gr.refl [] w).alloc _).alloc _⟩
end Go.Proofs.YtdgcninmpcmdcaaGreat

/-
  Layer 7: words stay words, whatever is written.
-/
namespace Go.Proofs.YtdgcninmpcmdcaaGreat
open Go.RowKit
set_option linter.unusedVariables false

/-- Each word of the medium and of what is stored is a word. -/
def MBB (D : DevS) : Prop := MB D ∧ ∀ z p, D.buf z = some p → p.1 < 18446744073709551616
theorem MBB.op {D : DevS} (h : MBB D) (t : Bool) {f : DevS → DevS} (hf : ∀ E, MBB E → MBB (f E)) : MBB (opD D t f) := by
  unfold opD
  split
  · exact h
  · split
    · exact h
    · exact hf _ h
theorem MBB.store {D : DevS} (h : MBB D) (z : Int) {v : Nat} (hv : v < 18446744073709551616) : MBB (storeF z v D) := by
  refine ⟨h.1, fun y p e => ?_⟩
  have e2 : updZ D.buf z (some (v, false)) y = some p := e
  unfold updZ at e2
  split at e2
  · injection e2 with e2
    rw [← e2]
    exact hv
  · exact h.2 y p e2
theorem MBB.flush {D : DevS} (h : MBB D) (z : Int) : MBB (flushF z D) := by
  refine ⟨h.1, fun y p e => ?_⟩
  have e2 : flF D.buf z.toNat 8 y = some p := e
  unfold flF at e2
  split at e2
  · cases c : D.buf y with
    | none => rw [c] at e2; cases e2
    | some x =>
      rw [c] at e2
      have e3 : some (x.1, true) = some p := e2
      injection e3 with e3
      rw [← e3]
      exact h.2 y x c
  · exact h.2 y p e2
theorem MBB.fence {D : DevS} (h : MBB D) : MBB (fenceF D) := by
  refine ⟨fun x => ?_, fun y p e => ?_⟩
  · show perMed D (fluS D) x < _
    unfold perMed
    split
    · cases c : D.buf (x : Int) with
      | none => exact (by decide : 0 < 18446744073709551616)
      | some y => exact h.2 _ y c
    · exact h.1 x
  · have e2 : perBuf D (fluS D) y = some p := e
    unfold perBuf at e2
    split at e2
    · cases e2
    · exact h.2 y p e2
theorem MBB.fin {D : DevS} (h : MBB D) (l : Nat) : MBB (finS l D).2 := by
  unfold finS
  split
  · exact (h.op _ fun E hE => hE.flush _).op _ fun E hE => hE.fence
  · exact h.op _ fun E hE => hE.flush _
theorem MBB.stos {f : Nat → Nat} (hf : ∀ k, f k < 18446744073709551616) (l k : Nat) : ∀ (m i : Nat) (D : DevS), MBB D → MBB (stos l k f m i D).2
  | 0, _, D, h => h.fin l
  | m + 1, i, D, h => by
    unfold Go.Proofs.YtdgcninmpcmdcaaGreat.stos
    split
    · exact MBB.stos hf l k m (i + 1) _ (h.op _ fun E hE => hE.store _ (hf i))
    · exact h.op _ fun E hE => hE.store _ (hf i)
theorem MBB.put {D : DevS} (h : MBB D) (z : Int) (s : ByteArray) : MBB (putE D z s).2 := by
  unfold putE
  split
  · exact h
  · split
    · exact MBB.stos (fun k => wdL_lt _ k) _ _ _ _ _ h
    · exact h
theorem MBB.pw {D : DevS} (h : MBB D) (z k : Int) {v : Nat} (hv : v < 18446744073709551616) : MBB (pwE D z k v).2 := by
  unfold pwE
  split
  · exact h
  · split
    · exact MBB.stos (fun _ => hv) _ _ _ _ _ h
    · exact h
theorem markN_lt (D : DevS) (z : Int) {i : Int} (s : ByteArray) (hi : i < 65535) : markN D z i s < 18446744073709551616 := by
  unfold markN
  split <;> omega
theorem MBB.rep {D : DevS} (h : MBB D) (p : PlanZ) {i : Int} (s : ByteArray) (B : BkS) (hi : i < 65535) : MBB (replaceS p i s D B).D := by
  unfold replaceS
  split
  · exact h.put _ _
  · split
    · exact (h.put _ _).pw _ _ (guardN_lt _ (markN_lt _ _ _ hi))
    · exact (h.put _ _).pw _ _ (guardN_lt _ (markN_lt _ _ _ hi))
theorem MBB.ens {p : PlanZ} {i : Int} {s : ByteArray} (hi : i < 65535) : ∀ (n : Nat) (D : DevS) (B : BkS), MBB D → MBB (ensS p i s n D B).2.1
  | 0, D, B, h => h
  | n + 1, D, B, h => by
    unfold ensS
    split
    · exact h.rep p s B hi
    · exact MBB.ens hi n _ _ (h.rep p s B hi)
theorem MBB.ensure {D : DevS} (h : MBB D) (p : PlanZ) {i : Int} (z : Int) (s : ByteArray) (B : BkS) (hi : i < 65535) : MBB (ensureS p i z s D B).2.1 := by
  unfold ensureS
  split
  · exact h
  · exact MBB.ens hi _ _ _ h
theorem MBB.write {D : DevS} (h : MBB D) (p : PlanZ) {i : Int} (s : ByteArray) (B : BkS) (hi : i < 65535) : MBB (writeS p i s D B).2.1 := by
  unfold writeS
  split
  · exact h
  · split
    · split
      · exact h.put _ _
      · exact (h.put _ _).ensure _ _ _ _ hi
    · exact h
theorem MBB.ww {D : DevS} (h : MBB D) (p : PlanZ) {i : Int} (k : Int) {v : Nat} (B : BkS) (hi : i < 65535) (hv : v < 18446744073709551616) : MBB (writeWordS p i k v D B).2.1 := by
  unfold writeWordS
  split
  · exact h
  · split
    · split
      · exact h
      · split
        · exact h.pw _ _ hv
        · exact (h.pw _ _ hv).ensure _ _ _ _ hi
    · exact h
end Go.Proofs.YtdgcninmpcmdcaaGreat

/-
  RingPlays: the document's side: the bank of a plan, a bank's line, the state, a line's slot.
-/
namespace Go.Proofs.YtdgcninmpcmdcaaGreat
open Go.RowKit
set_option linter.unusedVariables false

/-- A region on, behind j moves. -/
structure OnR (P : PlanR) (D : DevS) (B : BkS) (j : Nat) : Prop where
  live : Live D
  ti : TI (bankR P) (bare D) B
  reg : cntZ (bankR P) B D ((P.l : Int) + 1) 0 = pkN P j
section
variable {w : World} {r : RefA} {D : DevS} {P : PlanR} {B : BkS} {j c : Nat}
set_option maxRecDepth 100000 in
theorem rbank07 (hP : OkR P) (w : World) : Calls Tryz.prog 26 #[planRV P] w fun e w' => e = .returned (planV (bankR P)) ∧ Gr [] w w' := by
  have hl := hP.l2
  have HG := Lib.hid (((Gr.refl [] w).alloc (Obj.cells #[.int .i64 P.a, .int .i64 (P.l : Int), .int .i64 P.s, .int .i64 P.psi] 25)).alloc (Obj.cells #[.int .i64 0, .int .i64 0, .int .i64 0] 74))
  obtain ⟨x, hx⟩ : ∃ x : Int, (P.l : Int) + 2 = x := ⟨_, rfl⟩
  have a1 : IntKind.i64.wrap x = x := IntWalk.i64_in _ (by omega)
  unfold planRV planV bankR
  rw [hx]
  clear hP hl
  go_enter Tryz.func26, Tryz.ntmps26
  go_wp2_with fail
  exact bodyPost_ret (v := .agg #[.int .i64 P.a, .int .i64 x, .int .i64 P.s]) (by simp [results, Tryz.results26, go_sem]) rfl ⟨rfl, ((Gr.refl [] w).alloc _).alloc _⟩
theorem inZ (P : PlanR) {z : Int} (h : inP (bankR P) z) : 0 ≤ z ∧ z ≤ (P.l : Int) + 1 := by
  obtain ⟨h0, h1⟩ := h
  have h1' : z < (P.l : Int) + 2 := h1
  omega
set_option maxRecDepth 100000 in
set_option maxHeartbeats 8000000 in
theorem rline07 {p : PlanZ} (z : Int) (h : RefIs w r D) (hd : Live D) (hT : TI p (bare D) B) (hmb : MB D) (hok : okZ p = true) (hi : inP p z) :
    Calls Tryz.prog 90 #[.pointer (some ⟨r.rd, 0, none⟩), planV p, .int .i64 z] w fun e w' => e = .returned (.tuple #[.string (readR D p B z).1, .int .i64 0]) ∧ Gr [] w w' := by
  obtain ⟨c0, c1, c2⟩ := rplan_cells p w
  have HG := Lib.hid ((Gr.refl [] w).alloc (Obj.cells #[.int .i64 p.a, .int .i64 p.l, .int .i64 p.s] 74))
  obtain ⟨w1, hw1⟩ : ∃ w1, w1 = w.alloc (Obj.cells #[.int .i64 p.a, .int .i64 p.l, .int .i64 p.s] 74) := ⟨_, rfl⟩
  obtain ⟨pb, hpb⟩ : ∃ pb, pb = w.heap.size := ⟨_, rfl⟩
  rw [← hpb, ← hw1] at c0 c1 c2
  rw [← hw1] at HG
  obtain ⟨l0, hp, hln, hl1, hl2⟩ := hT.place hok hi
  obtain ⟨l, hM, hlu, hwh⟩ := hT.marks hd hok hmb
  have hfit : p.a + sizeZ p ≤ (D.n : Int) := hT.fits
  have hln2 : l0 < D.n := hln
  have hrd : readR D p B z = (⟨(getT D l0).toArray⟩, 0) := by
    unfold readR
    rw [if_pos hi, hd.off, hp, Int.toNat_natCast]
    rfl
  rw [hrd]
  have HEn := Lib.hid (show Calls Tryz.prog 94 #[.pointer (some ⟨r.rd, 0, none⟩), .agg #[.int .i64 p.a, .int .i64 p.l, .int .i64 p.s]] w1 _ from rentries_any (h.gr0 HG.out) hd.off hok hfit hM)
  have HWh := Lib.hid (fun (W : World) (po : Option Addr) (pc : Nat) (hr : RowAt W po l) => show Calls Tryz.prog 95 #[.agg #[.int .i64 p.a, .int .i64 p.l, .int .i64 p.s], .slice po l.length pc, .int .i64 z] W _ from rwhere_any z hok hi hM.len (fun j m e => (hM.each j m e).2) hr)
  rw [hwh z hi, hp] at HWh
  have HGt := Lib.hid (fun W (q : RefIs W r D) => rget4_yes r D l0 W q hln2 hd.off (fun x => by unfold loadV; rw [hd.buf]; exact hmb x))
  have HD := Lib.hid h
  obtain ⟨N, hN⟩ : ∃ N, N = l.length := ⟨_, rfl⟩
  rw [← hN] at HEn HWh
  obtain ⟨X, hX⟩ : ∃ X : ByteArray, X = ⟨(getT D l0).toArray⟩ := ⟨_, rfl⟩
  rw [← hX] at HGt
  simp only
  rw [← hX]
  clear h hd hT hmb hok hi hp hln hl1 hl2 hM hlu hwh hfit hln2 hrd hN hX
  unfold planV
  go_enter Tryz.func90, Tryz.ntmps90
  go_wp2_with fail
  rw [← hw1]
  rw [← hpb]
  clear hw1 hpb
  refine HEn.out.mono ?_
  rintro e w2 ⟨po, pc, rfl, hrow, g2⟩
  have HRow := Lib.hid hrow
  replace c0 := (g2.cell0 (World.block_lt_of_cell? w1 _ c0)).trans c0
  replace c1 := (g2.cell0 (World.block_lt_of_cell? w1 _ c1)).trans c1
  replace c2 := (g2.cell0 (World.block_lt_of_cell? w1 _ c2)).trans c2
  have HG2 := Lib.hid (HG.out.trans g2)
  clear hrow g2 HG HEn
  go_wp2_with fail
  refine (HWh.out _ po pc HRow.out).mono ?_
  rintro e w3 ⟨rfl, g3⟩
  have HG3 := Lib.hid (HG2.out.trans g3)
  clear g3 HG2 HRow HWh c0 c1 c2
  go_wp2_with fail
  refine (HGt.out _ (HD.out.gr0 HG3.out)).mono ?_
  rintro e w4 ⟨rfl, g4⟩
  have HG4 := Lib.hid (HG3.out.trans g4)
  clear g4
  go_wp2_with fail
  go_ret2
  exact ⟨rfl, HG4.out⟩
end
end Go.Proofs.YtdgcninmpcmdcaaGreat

/-
  RingPlays: the document's side: the state that the register says.
-/
namespace Go.Proofs.YtdgcninmpcmdcaaGreat
open Go.RowKit
set_option linter.unusedVariables false

section
variable {w : World} {r : RefA} {D : DevS} {P : PlanR} {B : BkS} {j c : Nat}
theorem pk_parts (hP : OkR P) (j : Nat) (hj : j ≤ 4294967295) : ((pkN P j : Nat) : Int) % 65536 = sAt P.l j ∧ ((pkN P j : Nat) : Int) / 65536 % 65536 = gAt P.l j ∧ ((pkN P j : Nat) : Int) / 4294967296 = (j : Int) ∧ rightS (sAt P.l j) (gAt P.l j) (P.l : Int) := by
  have hr := at_right P.l j hP.l1 hP.l2
  obtain ⟨a1, a2, a3, a4, a5, a6⟩ := hr
  obtain ⟨k1, k2⟩ := pkN_val hP j hj
  rw [k1]
  unfold pkI
  rw [show gAt P.l j % 65536 = gAt P.l j from Int.emod_eq_of_lt a5 (by omega), show sAt P.l j % 65536 = sAt P.l j from Int.emod_eq_of_lt a3 (by omega)]
  obtain ⟨S, hS⟩ : ∃ S, sAt P.l j = S := ⟨_, rfl⟩
  obtain ⟨G, hG⟩ : ∃ G, gAt P.l j = G := ⟨_, rfl⟩
  rw [hS] at a3 a4 ⊢
  rw [hG] at a5 a6 ⊢
  clear hS hG k1 k2
  have s9 : S < 65536 := by omega
  have g9 : G < 65536 := by omega
  refine ⟨?_, ?_, ?_, a1, a2, a3, a4, a5, a6⟩
  · omega
  · omega
  · omega
set_option maxRecDepth 100000 in
set_option maxHeartbeats 8000000 in
/-- The state, as the register says. -/
theorem rstate07 (hP : OkR P) (h : RefIs w r D) (hO : OnR P D B j) (hmb : MB D) (hj : j ≤ 4294967295) :
    Calls Tryz.prog 42 #[.pointer (some ⟨r.rd, 0, none⟩), planRV P] w fun e w' => e = .returned (.tuple #[.int .i64 (sAt P.l j), .int .i64 (gAt P.l j), .int .u64 (j : Int), .int .i64 0]) ∧ Gr [] w w' := by
  obtain ⟨q1, q2, q3, q4⟩ := pk_parts hP j hj
  have hir := inR P (z := (P.l : Int) + 1) (by omega) (by omega)
  obtain ⟨l0, hp, hln, hl1, hl2⟩ := hO.ti.place hP.ok hir
  have hrd : readR D (bankR P) B ((P.l : Int) + 1) = (⟨(getT D l0).toArray⟩, 0) := by
    unfold readR
    rw [if_pos hir, hO.live.off, hp, Int.toNat_natCast]
    rfl
  have hw0 := live_words hO.live (l := l0) (fun k _ => hmb _) 0 (by omega)
  have hrg := hO.reg
  unfold cntZ at hrg
  rw [hp, Int.toNat_natCast] at hrg
  have HLi := Lib.hid (fun W (q : RefIs W r D) => show Calls Tryz.prog 90 #[.pointer (some ⟨r.rd, 0, none⟩), .agg #[.int .i64 P.a, .int .i64 ((P.l : Int) + 2), .int .i64 P.s], .int .i64 ((P.l : Int) + 1)] W _ from rline07 (p := bankR P) ((P.l : Int) + 1) q hO.live hO.ti hmb hP.ok hir)
  rw [hrd] at HLi
  simp only at HLi
  have hsz := line_size D l0
  obtain ⟨T, hT⟩ : ∃ T : ByteArray, T = ⟨(getT D l0).toArray⟩ := ⟨_, rfl⟩
  rw [← hT] at HLi hw0 hsz
  have hget : getL ((T.extract 0 8).data.toList.take 8) = pkN P j := by
    rw [← hrg, ← hw0]
    unfold wdL
    simp [ByteArray.data_extract, List.take_take]
  have HGe := Lib.hid (fun W => rget_any (T.extract 0 8) W (by rw [ByteArray.size_extract]; unfold maxLen; omega))
  rw [hget] at HGe
  have HBk := Lib.hid (fun W => show Calls Tryz.prog 26 #[.agg #[.int .i64 P.a, .int .i64 (P.l : Int), .int .i64 P.s, .int .i64 P.psi]] W _ from rbank07 hP W)
  have HRi := Lib.hid (fun W => rright_yes (sAt P.l j) (gAt P.l j) (P.l : Int) W q4)
  have HH := Lib.hid h
  have hl2 := hP.l2
  obtain ⟨V, hV⟩ : ∃ V : Int, V = ((pkN P j : Nat) : Int) := ⟨_, rfl⟩
  rw [← hV] at HGe q1 q2 q3
  obtain ⟨S, hS⟩ : ∃ S : Int, S = sAt P.l j := ⟨_, rfl⟩
  obtain ⟨Gg, hGg⟩ : ∃ G : Int, G = gAt P.l j := ⟨_, rfl⟩
  rw [← hS] at HRi q1 q4 ⊢
  rw [← hGg] at HRi q2 q4 ⊢
  have hV0 : 0 ≤ V ∧ V < 18446744073709551616 := by have := (pkN_val hP j hj).2; omega
  obtain ⟨Q, hQ⟩ : ∃ Q : Int, Q = V / 65536 := ⟨_, rfl⟩
  rw [← hQ] at q2
  have t0 : IntKind.u64.wrap (V.tdiv 65536) = Q := by
    rw [Int.tdiv_eq_ediv_of_nonneg hV0.1, ← hQ]
    exact IntWalk.u64_in _ (by omega)
  have t1 : Q.tmod 65536 = Gg := by rw [Int.tmod_eq_emod_of_nonneg (by omega)]; exact q2
  have t2 : V.tmod 65536 = S := by rw [Int.tmod_eq_emod_of_nonneg hV0.1]; exact q1
  have t3 : IntKind.u64.wrap (V.tdiv 4294967296) = (j : Int) := by
    rw [Int.tdiv_eq_ediv_of_nonneg hV0.1, q3]
    exact IntWalk.u64_in _ (by omega)
  have t4 : wrap64 Gg = Gg := by have := q4.2.2.2.2.1; have := q4.2.2.2.2.2; unfold wrap64; omega
  have t5 : wrap64 S = S := by have := q4.2.2.1; have := q4.2.2.2.1; unfold wrap64; omega
  have hS9 : IntKind.i64.wrap S = S := IntWalk.i64_in _ (by have := q4.2.2.1; have := q4.2.2.2.1; omega)
  have hG9 : IntKind.i64.wrap Gg = Gg := IntWalk.i64_in _ (by have := q4.2.2.2.2.1; have := q4.2.2.2.2.2; omega)
  have hw1 : IntKind.i64.wrap ((P.l : Int) + 1) = (P.l : Int) + 1 := IntWalk.i64_in _ (by omega)
  clear hV0 hQ q3 q4 hir hp hln hl1 hrd hw0 hrg hT hget h hO hmb hj hP hV hS hGg
  have HX := Lib.hid (Holds.new w #[.int .i64 P.a, .int .i64 (P.l : Int), .int .i64 P.s, .int .i64 P.psi] 25)
  have HG := Lib.hid ((Gr.refl [] w).alloc (Obj.cells #[.int .i64 P.a, .int .i64 (P.l : Int), .int .i64 P.s, .int .i64 P.psi] 25))
  unfold planRV
  unfold planV bankR at HBk
  simp only at HBk
  go_enter Tryz.func42, Tryz.ntmps42
  go_upto_region 1 with fail
  generalize (w.alloc (Obj.cells #[.int .i64 P.a, .int .i64 (P.l : Int), .int .i64 P.s, .int .i64 P.psi] 25)) = w1 at *
  obtain ⟨pb, hpb⟩ : ∃ pb, w.heap.size = pb := ⟨_, rfl⟩
  rw [hpb] at HX ⊢
  clear hpb
  have c0 := HX.out.cell 0
  have c1 := HX.out.cell 1
  have c2 := HX.out.cell 2
  have c3 := HX.out.cell 3
  go_wp2_with fail
  refine (HBk.out _).mono ?_
  rintro e w2 ⟨rfl, g2⟩
  have HX2 := Lib.hid (And.intro (HX.out.gr0 g2) (HG.out.trans g2))
  clear g2 c0 c1 c2 c3 HX HG HBk
  go_upto_region 2 with fail
  have hb := Holds.new w2 #[.int .i64 P.a, .int .i64 ((P.l : Int) + 2), .int .i64 P.s] 74
  have ga := (Gr.refl [] w2).alloc (Obj.cells #[.int .i64 P.a, .int .i64 ((P.l : Int) + 2), .int .i64 P.s] 74)
  have HX3 := Lib.hid (And.intro (HX2.out.1.gr0 ga) (And.intro (HX2.out.2.trans ga) hb))
  clear hb ga HX2
  generalize (w2.alloc (Obj.cells #[.int .i64 P.a, .int .i64 ((P.l : Int) + 2), .int .i64 P.s] 74)) = w3 at *
  obtain ⟨bb, hbb⟩ : ∃ bb, w2.heap.size = bb := ⟨_, rfl⟩
  rw [hbb] at HX3 ⊢
  clear hbb
  have c1 := HX3.out.1.cell 1
  have b0 := HX3.out.2.2.cell 0
  have b1 := HX3.out.2.2.cell 1
  have b2 := HX3.out.2.2.cell 2
  go_wp2_with fail
  refine (HLi.out _ (HH.out.gr0 HX3.out.2.1)).mono ?_
  rintro e w4 ⟨rfl, g4⟩
  have HX4 := Lib.hid (And.intro (HX3.out.1.gr0 g4) (HX3.out.2.1.trans g4))
  clear g4 c1 b0 b1 b2 HX3 HLi
  go_wp2_with fail
  refine (HGe.out _).mono ?_
  rintro e w5 ⟨rfl, rfl⟩
  have c1 := HX4.out.1.cell 1
  go_wp2_with fail
  refine (HRi.out _).mono ?_
  rintro e w6 ⟨rfl, rfl⟩
  clear c1 hsz
  go_wp2_with fail
  exact bodyPost_ret (v := .tuple #[.int .i64 S, .int .i64 Gg, .int .u64 (j : Int), .int .i64 0]) (by simp [results, Tryz.results42, go_sem]) rfl ⟨rfl, HX4.out.2⟩
end
end Go.Proofs.YtdgcninmpcmdcaaGreat

/-
  RingPlays: the document's side: a line's slot, its place, Read.
-/
namespace Go.Proofs.YtdgcninmpcmdcaaGreat
open Go.RowKit
set_option linter.unusedVariables false

section
variable {w : World} {r : RefA} {D : DevS} {P : PlanR} {B : BkS} {j c : Nat}
set_option maxRecDepth 100000 in
set_option maxHeartbeats 8000000 in
theorem rslot07 (hP : OkR P) (i : Nat) (hi : i < P.l) (w : World) : Calls Tryz.prog 43 #[.int .i64 (sAt P.l j), .int .i64 (gAt P.l j), .int .i64 (P.l : Int), .int .i64 (i : Int)] w fun e w' => e = .returned (.int .i64 (slotJ P j i)) ∧ Gr [] w w' := by
  have hr := at_right P.l j hP.l1 hP.l2
  obtain ⟨s, hs⟩ : ∃ s : Nat, sAt P.l j = (s : Int) := ⟨(sAt P.l j).toNat, by have := hr.2.2.1; omega⟩
  obtain ⟨g, hg⟩ : ∃ g : Nat, gAt P.l j = (g : Int) := ⟨(gAt P.l j).toNat, by have := hr.2.2.2.2.1; omega⟩
  rw [hs, hg] at hr
  obtain ⟨b0, b1, b2⟩ := slot_ok s g P.l i hr (by omega) (by omega)
  have hsl : slotJ P j i = slotI s g P.l i := by unfold slotJ; rw [hs, hg]
  rw [hs, hg, hsl]
  obtain ⟨k0, hk0⟩ : ∃ k : Nat, slotI s g P.l i = (k : Int) := ⟨(slotI s g P.l i).toNat, by omega⟩
  rw [hk0] at b0 b1 b2 ⊢
  have huniq : ∀ p : Nat, p ≤ P.l → occ s g P.l p = (i : Int) → p = k0 := by
    intro p hp he
    unfold occ at he
    by_cases c : (p : Int) = g
    · rw [if_pos c] at he; omega
    · rw [if_neg c] at he
      have := (slot_occ s g P.l p hr (by omega) (by omega) c).2.2
      rw [he, hk0] at this
      omega
  have HSL := Lib.hid (fun W => rslots s g P.l W hr)
  have HU := Lib.hid huniq
  have HB := Lib.hid (And.intro b1 b2)
  have hPl : P.l ≤ 1024 := hP.l2
  obtain ⟨L, hL⟩ : ∃ L, P.l = L := ⟨_, rfl⟩
  rw [hL] at HSL HU HB hPl hi ⊢
  obtain ⟨N1, hN1⟩ : ∃ N1 : Nat, N1 = L + 1 := ⟨_, rfl⟩
  have HN1 := Lib.hid hN1
  rw [← hN1] at HSL
  clear hP hs hg hr b0 b1 b2 hsl hk0 huniq hL hN1
  go_enter Tryz.func43, Tryz.ntmps43
  go_wp2_with fail
  refine (HSL.out _).mono ?_
  rintro e w1 ⟨xs, rfl, hown, hrow, hb⟩
  have HG := Lib.hid (Gr.ofBelow (cs := []) hb)
  have HO := Lib.hid (And.intro hown hrow)
  clear hown hrow hb HSL
  go_wp2_with fail
  go_loopw [10] (fun z wr => ∃ k : Nat, k ≤ k0 ∧ z = .int .i64 (k : Int) ∧ wr = w1) (fun z _ => k0 - (intOf z).toNat)
  case atStart => exact ⟨0, by omega, rfl, rfl⟩
  case round =>
    obtain ⟨k, hk, rfl, rfl⟩ := hrel
    have hkL : k ≤ L := by have := HB.out.1; omega
    have hc := HO.out.1.cellAt k (by have := HO.out.2.1; have := HN1.out; omega)
    rw [HO.out.2.2 k hkL] at hc
    have ik : (k : Int) < (N1 : Int) := by have := HN1.out; omega
    have i0 : (0 : Int) ≤ (k : Int) := by omega
    by_cases c : k = k0
    · subst c
      rw [HB.out.2] at hc
      go_wp2_with fail
      go_ret
      exact ⟨rfl, HG.out⟩
    · obtain ⟨o, ho⟩ : ∃ o : Int, occ s g L k = o := ⟨_, rfl⟩
      rw [ho] at hc
      have hne : ¬ o = (i : Int) := fun e => c (HU.out k hkL (by rw [ho, e]))
      have hbe : (o == (i : Int)) = false := by simpa using hne
      have hw : IntKind.i64.wrap ((k : Int) + 1) = (k : Int) + 1 := IntWalk.i64_in _ (by omega)
      have HKC := Lib.hid c
      clear ho c
      go_wp2_with fail
      go_roundw
      case rel => exact ⟨k + 1, by have := HKC.out; omega, by go_num, trivial⟩
      case measure => have := HKC.out; simp [intOf]; omega
set_option maxRecDepth 100000 in
set_option maxHeartbeats 8000000 in
/-- Where a line is. -/
theorem rwhere07 (hP : OkR P) (h : RefIs w r D) (hO : OnR P D B j) (hmb : MB D) (hj : j ≤ 4294967295) (i : Nat) (hi : i < P.l) :
    Calls Tryz.prog 51 #[.pointer (some ⟨r.rd, 0, none⟩), planRV P, .int .i64 (i : Int)] w fun e w' => e = .returned (.tuple #[.int .i64 (placeP (bankR P) B (slotJ P j i)), .int .i64 0]) ∧ Gr [] w w' := by
  have hz : inP (bankR P) (slotJ P j i) := by
    rw [slotJ_N P j i hP.l1]
    have := slotN_le (j := j) (i := i) hP.l1
    exact inR P (by omega) (by omega)
  obtain ⟨l, hM, hlu, hwh⟩ := hO.ti.marks hO.live hP.ok hmb
  have hfit : (bankR P).a + sizeZ (bankR P) ≤ (D.n : Int) := hO.ti.fits
  have HSt := Lib.hid (fun W (q : RefIs W r D) => show Calls Tryz.prog 42 #[.pointer (some ⟨r.rd, 0, none⟩), .agg #[.int .i64 P.a, .int .i64 (P.l : Int), .int .i64 P.s, .int .i64 P.psi]] W _ from rstate07 hP q hO hmb hj)
  have HBk := Lib.hid (fun W => show Calls Tryz.prog 26 #[.agg #[.int .i64 P.a, .int .i64 (P.l : Int), .int .i64 P.s, .int .i64 P.psi]] W _ from rbank07 hP W)
  have HEn := Lib.hid (fun W (q : RefIs W r D) => show Calls Tryz.prog 94 #[.pointer (some ⟨r.rd, 0, none⟩), .agg #[.int .i64 P.a, .int .i64 ((P.l : Int) + 2), .int .i64 P.s]] W _ from rentries_any (p := bankR P) q hO.live.off hP.ok hfit hM)
  have HSl := Lib.hid (fun W => rslot07 (j := j) hP i hi W)
  have HWh := Lib.hid (fun (W : World) (po : Option Addr) (pc : Nat) (hr : RowAt W po l) => show Calls Tryz.prog 95 #[.agg #[.int .i64 P.a, .int .i64 ((P.l : Int) + 2), .int .i64 P.s], .slice po l.length pc, .int .i64 (slotJ P j i)] W _ from rwhere_any (p := bankR P) (slotJ P j i) hP.ok hz hM.len (fun j m e => (hM.each j m e).2) hr)
  rw [hwh _ hz] at HWh
  obtain ⟨N, hN⟩ : ∃ N, N = l.length := ⟨_, rfl⟩
  rw [← hN] at HEn HWh
  have HH := Lib.hid h
  have HX := Lib.hid (Holds.new w #[.int .i64 P.a, .int .i64 (P.l : Int), .int .i64 P.s, .int .i64 P.psi] 25)
  have HG := Lib.hid ((Gr.refl [] w).alloc (Obj.cells #[.int .i64 P.a, .int .i64 (P.l : Int), .int .i64 P.s, .int .i64 P.psi] 25))
  obtain ⟨S, hS⟩ : ∃ S : Int, sAt P.l j = S := ⟨_, rfl⟩
  obtain ⟨Gg, hGg⟩ : ∃ G : Int, gAt P.l j = G := ⟨_, rfl⟩
  obtain ⟨K, hK⟩ : ∃ K : Int, slotJ P j i = K := ⟨_, rfl⟩
  obtain ⟨Y, hY⟩ : ∃ Y : Int, placeP (bankR P) B K = Y := ⟨_, rfl⟩
  rw [hS, hGg] at HSt HSl
  rw [hK] at HSl HWh ⊢
  rw [hY] at HWh ⊢
  clear hN hz hM hlu hwh hfit hO hmb hj hP h hS hGg hK hY hi
  unfold planRV
  unfold planV bankR at HBk
  simp only at HBk
  go_enter Tryz.func51, Tryz.ntmps51
  go_upto_region 1 with fail
  generalize (w.alloc (Obj.cells #[.int .i64 P.a, .int .i64 (P.l : Int), .int .i64 P.s, .int .i64 P.psi] 25)) = w1 at *
  obtain ⟨pb, hpb⟩ : ∃ pb, w.heap.size = pb := ⟨_, rfl⟩
  rw [hpb] at HX ⊢
  clear hpb
  have c0 := HX.out.cell 0
  have c1 := HX.out.cell 1
  have c2 := HX.out.cell 2
  have c3 := HX.out.cell 3
  go_wp2_with fail
  refine (HSt.out _ (HH.out.gr0 HG.out)).mono ?_
  rintro e w2 ⟨rfl, g2⟩
  have HX2 := Lib.hid (And.intro (HX.out.gr0 g2) (HG.out.trans g2))
  clear g2 c0 c1 c2 c3 HX HG HSt
  have c0 := HX2.out.1.cell 0
  have c1 := HX2.out.1.cell 1
  have c2 := HX2.out.1.cell 2
  have c3 := HX2.out.1.cell 3
  go_wp2_with fail
  refine (HBk.out _).mono ?_
  rintro e w3 ⟨rfl, g3⟩
  have HX3 := Lib.hid (And.intro (HX2.out.1.gr0 g3) (HX2.out.2.trans g3))
  clear g3 c0 c1 c2 c3 HX2 HBk
  go_upto_region 5 with fail
  have hb := Holds.new w3 #[.int .i64 P.a, .int .i64 ((P.l : Int) + 2), .int .i64 P.s] 74
  have ga := (Gr.refl [] w3).alloc (Obj.cells #[.int .i64 P.a, .int .i64 ((P.l : Int) + 2), .int .i64 P.s] 74)
  have HX4 := Lib.hid (And.intro (HX3.out.1.gr0 ga) (And.intro (HX3.out.2.trans ga) hb))
  clear hb ga HX3
  generalize (w3.alloc (Obj.cells #[.int .i64 P.a, .int .i64 ((P.l : Int) + 2), .int .i64 P.s] 74)) = w4 at *
  obtain ⟨bb, hbb⟩ : ∃ bb, w3.heap.size = bb := ⟨_, rfl⟩
  rw [hbb] at HX4 ⊢
  clear hbb
  have b0 := HX4.out.2.2.cell 0
  have b1 := HX4.out.2.2.cell 1
  have b2 := HX4.out.2.2.cell 2
  go_wp2_with fail
  refine (HEn.out _ (HH.out.gr0 HX4.out.2.1)).mono ?_
  rintro e w5 ⟨po, pc, rfl, hrow, g5⟩
  have HX5 := Lib.hid (And.intro (HX4.out.1.gr0 g5) (And.intro (HX4.out.2.1.trans g5) (And.intro (HX4.out.2.2.gr0 g5) hrow)))
  clear g5 b0 b1 b2 hrow HX4 HEn
  have c1 := HX5.out.1.cell 1
  go_wp2_with fail
  refine (HSl.out _).mono ?_
  rintro e w6 ⟨rfl, g6⟩
  have HX6 := Lib.hid (And.intro (HX5.out.2.1.trans g6) (And.intro (HX5.out.2.2.1.gr0 g6) (RowAt.gr0 HX5.out.2.2.2 g6)))
  clear g6 c1 HX5 HSl
  have b0 := HX6.out.2.1.cell 0
  have b1 := HX6.out.2.1.cell 1
  have b2 := HX6.out.2.1.cell 2
  go_wp2_with fail
  refine (HWh.out _ po pc HX6.out.2.2).mono ?_
  rintro e w7 ⟨rfl, g7⟩
  have HX7 := Lib.hid (HX6.out.1.trans g7)
  clear g7 b0 b1 b2
  go_wp2_with fail
  go_ret2
  exact ⟨rfl, HX7.out⟩
set_option maxRecDepth 100000 in
set_option maxHeartbeats 8000000 in
theorem rread07_in (hP : OkR P) (h : RefIs w r D) (hO : OnR P D B j) (hmb : MB D) (hj : j ≤ 4294967295) (i : Nat) (hi : i < P.l) :
    Calls Tryz.prog 14 #[.pointer (some ⟨r.rd, 0, none⟩), planRV P, .int .i64 (i : Int)] w fun e w' => e = .returned (.tuple #[.string (readR D (bankR P) B (slotJ P j i)).1, .int .i64 0]) ∧ Gr [] w w' := by
  have hz : inP (bankR P) (slotJ P j i) := by
    rw [slotJ_N P j i hP.l1]
    have := slotN_le (j := j) (i := i) hP.l1
    exact inR P (by omega) (by omega)
  obtain ⟨l0, hp, hln, hl1, hl2⟩ := hO.ti.place hP.ok hz
  have hln2 : l0 < D.n := hln
  have hrd : readR D (bankR P) B (slotJ P j i) = (⟨(getT D l0).toArray⟩, 0) := by
    unfold readR
    rw [if_pos hz, hO.live.off, hp, Int.toNat_natCast]
    rfl
  rw [hrd]
  have HWh := Lib.hid (fun W (q : RefIs W r D) => show Calls Tryz.prog 51 #[.pointer (some ⟨r.rd, 0, none⟩), .agg #[.int .i64 P.a, .int .i64 (P.l : Int), .int .i64 P.s, .int .i64 P.psi], .int .i64 (i : Int)] W _ from rwhere07 hP q hO hmb hj i hi)
  rw [hp] at HWh
  have HGt := Lib.hid (fun W (q : RefIs W r D) => rget4_yes r D l0 W q hln2 hO.live.off (fun x => by unfold loadV; rw [hO.live.buf]; exact hmb x))
  obtain ⟨T, hT⟩ : ∃ T : ByteArray, T = ⟨(getT D l0).toArray⟩ := ⟨_, rfl⟩
  rw [← hT] at HGt
  simp only
  rw [← hT]
  have HH := Lib.hid h
  have HX := Lib.hid (Holds.new w #[.int .i64 P.a, .int .i64 (P.l : Int), .int .i64 P.s, .int .i64 P.psi] 25)
  have HG := Lib.hid ((Gr.refl [] w).alloc (Obj.cells #[.int .i64 P.a, .int .i64 (P.l : Int), .int .i64 P.s, .int .i64 P.psi] 25))
  have ik1 : ¬ ((i : Int) < 0) := by omega
  have ik2 : ¬ ((P.l : Int) ≤ (i : Int)) := by omega
  clear h hO hmb hj hP hi hz hp hln hln2 hrd hT
  unfold planRV
  go_enter Tryz.func14, Tryz.ntmps14
  go_upto_region 1 with fail
  generalize (w.alloc (Obj.cells #[.int .i64 P.a, .int .i64 (P.l : Int), .int .i64 P.s, .int .i64 P.psi] 25)) = w1 at *
  obtain ⟨pb, hpb⟩ : ∃ pb, w.heap.size = pb := ⟨_, rfl⟩
  rw [hpb] at HX ⊢
  clear hpb
  have c0 := HX.out.cell 0
  have c1 := HX.out.cell 1
  have c2 := HX.out.cell 2
  have c3 := HX.out.cell 3
  go_wp2_with fail
  refine (HWh.out _ (HH.out.gr0 HG.out)).mono ?_
  rintro e w2 ⟨rfl, g2⟩
  have HG2 := Lib.hid (HG.out.trans g2)
  clear g2 c0 c1 c2 c3 HX HG HWh
  go_wp2_with fail
  refine (HGt.out _ (HH.out.gr0 HG2.out)).mono ?_
  rintro e w3 ⟨rfl, g3⟩
  have HG3 := Lib.hid (HG2.out.trans g3)
  clear g3
  go_wp2_with fail
  go_ret2
  exact ⟨rfl, HG3.out⟩
set_option maxRecDepth 100000 in
theorem rread07_out (i : Int) (hi : i < 0 ∨ (P.l : Int) ≤ i) (w : World) (v : Value) :
    Calls Tryz.prog 14 #[v, planRV P, .int .i64 i] w fun e w' => e = .returned (.tuple #[.string ⟨#[]⟩, .int .i64 3]) ∧ Gr [] w w' := by
  have HX := Lib.hid (Holds.new w #[.int .i64 P.a, .int .i64 (P.l : Int), .int .i64 P.s, .int .i64 P.psi] 25)
  have HG := Lib.hid ((Gr.refl [] w).alloc (Obj.cells #[.int .i64 P.a, .int .i64 (P.l : Int), .int .i64 P.s, .int .i64 P.psi] 25))
  unfold planRV
  by_cases ik : i < 0
  · clear hi
    go_enter Tryz.func14, Tryz.ntmps14
    go_wp2_with fail
    go_ret2
    exact ⟨rfl, HG.out⟩
  · have ik2 : (P.l : Int) ≤ i := by omega
    clear hi
    go_enter Tryz.func14, Tryz.ntmps14
    go_wp2_with fail
    go_ret2
    exact ⟨rfl, HG.out⟩
end
end Go.Proofs.YtdgcninmpcmdcaaGreat
