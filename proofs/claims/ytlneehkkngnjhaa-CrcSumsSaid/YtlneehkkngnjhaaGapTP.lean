/-
  Plain lemmas on the ring: what is at each slot, move by move.
-/
import Derived.Test.YtlneehkkngnjhaaGapC
namespace Go.Proofs.Ytlneehkkngnjhaa
open Go.RowKit

/-- What is at a slot: a line, or nothing. -/
def occ (s g n p : Int) : Int := if p = g then -1 else lineI s g n p

theorem slot_ok (s g n i : Int) (h : rightS s g n) (h0 : 0 ≤ i) (h1 : i < n) :
    0 ≤ slotI s g n i ∧ slotI s g n i ≤ n ∧ occ s g n (slotI s g n i) = i := by
  obtain ⟨a1, a2, a3, a4, a5, a6⟩ := h
  have q1 := Int.emod_nonneg (i + s) (show n ≠ 0 by omega)
  have q2 := Int.emod_lt_of_pos (i + s) (show 0 < n by omega)
  have key : ((i + s) % n - s + n) % n = i := by
    have e : (i + s) % n - s + n = (i + s) % n + (n - s) := by omega
    rw [e, Int.emod_add_emod]
    have e2 : i + s + (n - s) = i + n := by omega
    rw [e2, Int.add_emod_right]
    exact Int.emod_eq_of_lt h0 h1
  unfold slotI occ lineI
  generalize (i + s) % n = q at *
  by_cases c : q < g
  · rw [if_pos c]
    refine ⟨by omega, by omega, ?_⟩
    rw [if_neg (by omega), if_neg (by omega)]
    exact key
  · rw [if_neg c]
    refine ⟨by omega, by omega, ?_⟩
    rw [if_neg (by omega), if_pos (by omega)]
    have e : q + 1 - 1 - s + n = q - s + n := by omega
    rw [e]
    exact key

theorem occ_pos (s g n p : Int) (_h : rightS s g n) (hg : 0 < g) :
    occ s (g - 1) n p = if p = g - 1 then -1 else if p = g then occ s g n (g - 1) else occ s g n p := by
  unfold occ lineI
  by_cases c : p = g - 1
  · rw [if_pos c, if_pos c]
  · rw [if_neg c, if_neg c]
    by_cases d : p = g
    · rw [if_pos d, if_pos (show g - 1 < p by omega), if_neg (show ¬ g - 1 = g by omega), if_neg (show ¬ g < g - 1 by omega), d]
    · rw [if_neg d, if_neg d]
      by_cases e : g < p
      · rw [if_pos (by omega), if_pos e]
      · rw [if_neg (by omega), if_neg e]
theorem occ_zero (s n p : Int) (h : rightS s 0 n) (hp : 0 ≤ p) (hpn : p ≤ n) :
    occ ((s + 1) % n) n n p = if p = n then -1 else if p = 0 then occ s 0 n n else occ s 0 n p := by
  obtain ⟨a1, a2, a3, a4, a5, a6⟩ := h
  have key : ∀ q : Int, (q - (s + 1) % n + n) % n = (q - 1 - s + n) % n := by
    intro q
    by_cases c : s + 1 < n
    · rw [Int.emod_eq_of_lt (by omega) c]; congr 1; omega
    · have e : s + 1 = n := by omega
      rw [e, Int.emod_self]
      have e1 : q - 0 + n = q + n := by omega
      have e2 : q - 1 - s + n = q := by omega
      rw [e1, e2, Int.add_emod_right]
  unfold occ lineI
  by_cases c : p = n
  · rw [if_pos c, if_pos c]
  · rw [if_neg c, if_neg c]
    by_cases d : p = 0
    · rw [if_pos d, if_neg (by omega), if_neg (by omega), if_pos (by omega), key, d]
      have e : n - 1 - s + n = (0 - 1 - s + n) + n := by omega
      rw [e, Int.add_emod_right (0 - 1 - s + n) n]
    · rw [if_neg d, if_neg (by omega), if_neg (by omega), if_pos (by omega), key]

/-- A move: the slot that the gap leaves gets what was at the slot to which it goes. -/
theorem occ_at (n j p : Nat) (h1 : 1 ≤ n) (h2 : n ≤ 1024) (hp : p ≤ n) :
    occ (sAt n (j + 1)) (gAt n (j + 1)) n p = if (p : Int) = gAt n (j + 1) then -1 else if (p : Int) = gAt n j then occ (sAt n j) (gAt n j) n (gAt n (j + 1)) else occ (sAt n j) (gAt n j) n p := by
  have hr := at_right n j h1 h2
  by_cases hg : 0 < gAt n j
  · obtain ⟨e1, e2⟩ := at_pos n j h1 hg
    rw [e1, e2]
    exact occ_pos _ _ _ _ hr hg
  · have h0 : gAt n j = 0 := by have := hr.2.2.2.2.1; omega
    obtain ⟨e1, e2⟩ := at_zero n j h1 h0
    rw [e1, e2, h0]
    rw [h0] at hr
    exact occ_zero _ _ _ hr (by omega) (by omega)
theorem gap_moves (n j : Nat) (h1 : 1 ≤ n) (h2 : n ≤ 1024) : gAt n (j + 1) ≠ gAt n j := by
  have hr := at_right n j h1 h2
  by_cases hg : 0 < gAt n j
  · obtain ⟨e1, e2⟩ := at_pos n j h1 hg
    omega
  · have h0 : gAt n j = 0 := by have := hr.2.2.2.2.1; omega
    obtain ⟨e1, e2⟩ := at_zero n j h1 h0
    omega

/-- Every state is one behind some moves. -/
theorem at_any (s g n : Nat) (h : rightS s g n) : sAt n (s * (n + 1) + (n - g)) = s ∧ gAt n (s * (n + 1) + (n - g)) = g := by
  obtain ⟨a1, a2, a3, a4, a5, a6⟩ := h
  have hlt : n - g < n + 1 := by omega
  have e1 : (s * (n + 1) + (n - g)) / (n + 1) = s := by
    rw [Nat.mul_comm, Nat.mul_add_div (by omega), Nat.div_eq_of_lt hlt, Nat.add_zero]
  have e2 : (s * (n + 1) + (n - g)) % (n + 1) = n - g := by
    rw [Nat.mul_comm, Nat.mul_add_mod, Nat.mod_eq_of_lt hlt]
  unfold sAt gAt
  rw [e1, e2]
  constructor
  · rw [Nat.mod_eq_of_lt (by omega)]
  · omega
/-- Behind as many moves as there are slots. -/
theorem at_round (n j : Nat) (_h1 : 1 ≤ n) : sAt n (j + (n + 1)) = (sAt n j + 1) % n ∧ gAt n (j + (n + 1)) = gAt n j := by
  unfold sAt gAt
  rw [Nat.add_div_right _ (by omega), Nat.add_mod_right]
  refine ⟨?_, rfl⟩
  have : (j / (n + 1) + 1) % n = (j / (n + 1) % n + 1) % n := by rw [Nat.mod_add_mod]
  rw [this]; rfl

/-- One move: the new gap is where it goes from; the old one where to. -/
theorem next_at2 (m j : Nat) (M : Int) (w : World) (h1 : 1 ≤ m) (h2 : m ≤ 1024) (hM : 0 ≤ M ∧ M ≤ 4294967295) :
    Calls Try.prog 42 #[.agg #[.int .i64 (sAt m j), .int .i64 (gAt m j), .int .u32 M], .int .i64 (m : Int)] w fun e w' =>
      e = .returned (.tuple #[.agg #[.int .i64 (sAt m (j + 1)), .int .i64 (gAt m (j + 1)), .int .u32 (m1 M)], .int .i64 (gAt m (j + 1)), .int .i64 (gAt m j)]) ∧ Below w.heap.size w w' := by
  have hr := at_right m j h1 h2
  by_cases hg : 0 < gAt m j
  · obtain ⟨e1, e2⟩ := at_pos m j h1 hg
    rw [e1, e2]
    exact next_pos _ _ _ _ w hr hg hM
  · have h0 : gAt m j = 0 := by have := hr.2.2.2.2.1; omega
    obtain ⟨e1, e2⟩ := at_zero m j h1 h0
    rw [e1, e2, h0]
    rw [h0] at hr
    exact next_zero _ _ _ w hr hM

/-- The row of what is at the slots. -/
def RowIs (xs : List Value) (s g : Int) (n : Nat) : Prop := xs.length = n + 1 ∧ ∀ p : Nat, p ≤ n → xs[p]? = some (.int .i64 (occ s g n p))
theorem RowIs.next {xs : List Value} {n j f t : Nat} (h : RowIs xs (sAt n j) (gAt n j) n) (h1 : 1 ≤ n) (h2 : n ≤ 1024) (hf : gAt n (j + 1) = f) (ht : gAt n j = t) (hfn : f ≤ n) (htn : t ≤ n) :
    RowIs ((xs.set t (.int .i64 (occ (sAt n j) (gAt n j) n f))).set f (.int .i64 (-1))) (sAt n (j + 1)) (gAt n (j + 1)) n := by
  refine ⟨by simpa using h.1, fun p hp => ?_⟩
  have hl := h.1
  rw [occ_at n j p h1 h2 hp, hf, ht]
  by_cases c : p = f
  · subst c
    rw [List.getElem?_set_self (by simp; omega), if_pos rfl]
  · rw [List.getElem?_set_ne (fun e => c e.symm), if_neg (by omega)]
    by_cases d : p = t
    · subst d
      rw [List.getElem?_set_self (by omega), if_pos rfl]
    · rw [List.getElem?_set_ne (fun e => d e.symm), if_neg (by omega), ← ht]
      exact h.2 p hp

end Go.Proofs.Ytlneehkkngnjhaa
