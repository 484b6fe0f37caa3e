/-
  Layer 24: locks of a law: what its steps keep, each for every state.
-/
import Derived.Test.YtlafmdpcabgcdaaLkY
import Derived.Test.YtlafmdpcabgcdaaFrameM
namespace Go.Proofs.Ytlafmdpcabgcdaa
open Go.RowKit

/-- The law's locks: n clients, at most m are held; of w nothing is changed but the blocks bs; the lists lie in none of the blocks av. -/
structure LR (bs av : List Nat) (n : Nat) (w wr : World) (a : LkA) (m : Nat) (S : LkS) : Prop where
  is : ∃ vs, LkIs wr a n m vs S ∧ ∀ d k, (vs d).ownBlock = some k → k < wr.heap.size ∧ k ∉ av
  lav : ∀ b ∈ av, b < wr.heap.size
  wf : WfH S
  gr : Gr bs w wr
  new : ∀ b ∈ a.all, b ∈ bs ∨ w.heap.size ≤ b
section
variable {bs av : List Nat} {n m c : Nat} {w wr w' : World} {a : LkA} {S : LkS}
theorem NwV.keep {vs vs' : Nat → Value} (h : NwV wr w' vs vs') (hv : ∀ d k, (vs d).ownBlock = some k → k < wr.heap.size ∧ k ∉ av) (hl : ∀ b ∈ av, b < wr.heap.size) (hs : wr.heap.size ≤ w'.heap.size) :
    ∀ d k, (vs' d).ownBlock = some k → k < w'.heap.size ∧ k ∉ av := fun d k hk => by
  rcases h d k hk with q | q
  · have := hv d k q
    exact ⟨by omega, this.2⟩
  · exact ⟨q.2, fun e => by have := hl k e; omega⟩
theorem LR.gr0 (h : LR bs av n w wr a m S) (g : Gr [] wr w') : LR bs av n w w' a m S := by
  obtain ⟨vs, hi, hv⟩ := h.is
  exact ⟨⟨vs, hi.gr0 g, fun d k hk => ⟨Nat.lt_of_lt_of_le (hv d k hk).1 g.size, (hv d k hk).2⟩⟩, fun b hb => Nat.lt_of_lt_of_le (h.lav b hb) g.size, h.wf, h.gr.next0 g, h.new⟩
theorem LR.ok (h : LR bs av n w wr a m S) : LkOk n S := by
  obtain ⟨vs, hi, _⟩ := h.is
  exact hi.ok
/-- A block of av is written. -/
theorem LR.grA {cs : List Nat} (h : LR bs av n w wr a m S) (g : Gr cs wr w') (h1 : ∀ b ∈ a.all, b ∉ cs) (h2 : ∀ b ∈ cs, b ∈ av) (h3 : ∀ b ∈ cs, b ∈ bs ∨ w.heap.size ≤ b) : LR bs av n w w' a m S := by
  obtain ⟨vs, hi, hv⟩ := h.is
  exact ⟨⟨vs, hi.grA g h1 (fun d k hk q => (hv d k hk).2 (h2 k q)), fun d k hk => ⟨Nat.lt_of_lt_of_le (hv d k hk).1 g.size, (hv d k hk).2⟩⟩, fun b hb => Nat.lt_of_lt_of_le (h.lav b hb) g.size, h.wf, h.gr.nextN g h3, h.new⟩
theorem WfH.step (hw : WfH S) (hx : ∀ x r, S.W c = x :: r → WfZ x) : WfH (stepL S c) := by
  unfold stepL
  split
  · exact hw
  · rename_i x r e
    split
    · intro y d hy
      simp only [setH] at hy
      split at hy
      · rename_i q; rw [q]; exact hx x r e
      · exact hw y d hy
    · exact hw
theorem WfH.drop (hw : WfH S) : WfH (dropL S c) := fun x d hx => by
  simp only [dropL] at hx
  split at hx
  · cases hx
  · exact hw x d hx
theorem lr_step (h : LR bs av n w wr a m S) (hc : c < n) (hm : m < 100000) : Calls Try.prog 12 #[.pointer (some ⟨a.b, 0, none⟩), .int .i64 c] wr fun e w' => e = .returned (.tuple #[.bool (decide ((stepL S c).W c = [])), .int .i64 0]) ∧ LR bs av n w w' a (m + 1) (stepL S c) ∧ Gr a.all wr w' := by
  obtain ⟨vs, hi, hv⟩ := h.is
  have hmono : LkIs wr a n (m + 1) vs S := ⟨hi.head, hi.map.mono (Nat.le_succ m), hi.row, hi.each, hi.nd, hi.ok, hi.hi, hi.wf⟩
  have hwf := h.wf.step (c := c) (fun x r e => hi.wf c x (by rw [e]; simp))
  cases e : S.W c with
  | nil =>
    have hs : stepL S c = S := by unfold stepL; rw [e]
    rw [hs, e]
    refine (step_none a n m vs S c wr hi hc e).mono fun e w' ⟨h1, h2⟩ => ⟨by rw [h1]; simp, ?_⟩
    rw [h2]
    exact ⟨⟨⟨vs, hmono, hv⟩, h.lav, h.wf, h.gr, h.new⟩, Gr.refl _ _⟩
  | cons x r =>
    cases q : S.H x with
    | some d =>
      have hs : stepL S c = S := by unfold stepL; rw [e]; simp [q]
      rw [hs, e]
      refine (step_held a n m vs S c x r d wr hi hc e q).mono fun e w' ⟨h1, h2⟩ => ⟨by rw [h1]; simp, ?_⟩
      exact ⟨(show LR bs av n w wr a (m + 1) S from ⟨⟨vs, hmono, hv⟩, h.lav, h.wf, h.gr, h.new⟩).gr0 h2, h2.of0⟩
    | none =>
      have hs : (stepL S c).W c = r := by unfold stepL; rw [e]; simp only; rw [if_pos q]; exact setW_same _ _ _
      rw [hs]
      refine (step_take a n m vs S c x r wr hi hc e q (by unfold maxLen; omega)).mono fun e w' ⟨h1, h2, vs', h3, h4⟩ => ⟨h1, ?_⟩
      exact ⟨⟨⟨vs', h3, h4.keep hv h.lav h2.size⟩, fun b hb => Nat.lt_of_lt_of_le (h.lav b hb) h2.size, hwf, h.gr.nextN h2 h.new, h.new⟩, h2⟩
theorem lr_drop (h : LR bs av n w wr a m S) (hc : c < n) : Calls Try.prog 10 #[.pointer (some ⟨a.b, 0, none⟩), .int .i64 c] wr fun e w' => e = .returned (.int .i64 0) ∧ LR bs av n w w' a m (dropL S c) ∧ Gr a.all wr w' := by
  obtain ⟨vs, hi, hv⟩ := h.is
  refine (drop_at a n m vs S c wr hi hc).mono fun e w' ⟨h1, h2, vs', h3, h4⟩ => ⟨h1, ⟨⟨vs', h3, h4.keep hv h.lav h2.size⟩, fun b hb => Nat.lt_of_lt_of_le (h.lav b hb) h2.size, h.wf.drop, h.gr.nextN h2 h.new, h.new⟩, h2⟩
theorem lr_waits (h : LR bs av n w wr a m S) (hc : c < n) {z : Int} (hz : waitZ S c = z) : Calls Try.prog 17 #[.pointer (some ⟨a.b, 0, none⟩), .int .i64 c] wr fun e w' => e = .returned (.int .i64 z) ∧ LR bs av n w w' a m S ∧ Gr [] wr w' := by
  obtain ⟨vs, hi, hv⟩ := h.is
  exact (waits_at a n m vs S c z wr hi hc hz).mono fun e w' ⟨h1, h2⟩ => ⟨h1, h.gr0 h2, h2⟩
theorem lr_ask (h : LR bs av n w wr a m S) (hc : c < n) (hm : m ≤ 100000) {v : Value} {xs : List Int} (hz : SlZ wr v xs) (hx6 : xs.length ≤ 1000) (hS : S.W c = []) (hyes : mayH S c xs) (hwx : ∀ x ∈ xs, WfZ x) :
    Calls Try.prog 8 #[.pointer (some ⟨a.b, 0, none⟩), .int .i64 c, v] wr fun e w' => ∃ l, e = .returned (.int .i64 0) ∧ Rise l ∧ (∀ z, z ∈ l ↔ z ∈ xs) ∧ LR bs av n w w' a m (askL S c l) ∧ Gr a.all wr w' := by
  obtain ⟨vs, hi, hv⟩ := h.is
  refine (ask_yes a n m vs S c v xs wr hi hc h.wf hm hz hx6 hS hyes hwx).mono fun e w' ⟨h1, h2, l, vs', h3, h4, h5, h6⟩ => ⟨l, h1, h3, h4, ⟨⟨vs', h5, h6.keep hv h.lav h2.size⟩, fun b hb => Nat.lt_of_lt_of_le (h.lav b hb) h2.size, h.wf, h.gr.nextN h2 h.new, h.new⟩, h2⟩
end
/-- The first of a list. -/
theorem SlZ.take {w : World} {ao : Option Addr} {N cap : Nat} {xs : List Int} (h : SlZ w (.slice ao N cap) xs) (m : Nat) (hm : m ≤ N) : SlZ w (.slice ao m cap) (xs.take m) := by
  obtain ⟨ao', cap', h1, h2, h3, h4, h5⟩ := h
  injection h1 with e1 e2 e3
  subst e1 e3
  have hl : (xs.take m).length = m := by rw [List.length_take]; omega
  refine ⟨ao, cap, by rw [hl], fun i x hi => ?_, by rw [hl]; omega, h4, h5⟩
  have him : i < m := by have := (List.getElem?_eq_some_iff.1 hi).1; omega
  rw [List.getElem?_take_of_lt him] at hi
  exact h2 i x hi
/-- A new block: from here on it alone is another's. -/
theorem LR.fresh {bs av : List Nat} {n m : Nat} {w wr : World} {a : LkA} {S : LkS} (h : LR bs av n w wr a m S) (o : Obj) : LR (wr.heap.size :: a.all) [wr.heap.size] n (wr.alloc o) (wr.alloc o) a m S := by
  have g : Gr [] wr (wr.alloc o) := (Gr.refl [] wr).alloc o
  obtain ⟨vs, hi, hv⟩ := h.is
  have hz : (wr.alloc o).heap.size = wr.heap.size + 1 := World.size_alloc _ _
  exact ⟨⟨vs, hi.gr0 g, fun d k hk => by have := (hv d k hk).1; exact ⟨by omega, by simp; omega⟩⟩, fun b hb => by simp at hb; omega, h.wf, Gr.refl _ _, fun b hb => .inl (List.mem_cons_of_mem _ hb)⟩

/-! ### Who has had all -/
def dnA (dn : Nat → Bool) : Array Value := #[.bool (dn 0), .bool (dn 1), .bool (dn 2), .bool (dn 3), .bool (dn 4), .bool (dn 5)]
def updB (dn : Nat → Bool) (c : Nat) : Nat → Bool := fun d => if d = c then true else dn d
theorem lt6 {c : Nat} (h : c < 6) : c = 0 ∨ c = 1 ∨ c = 2 ∨ c = 3 ∨ c = 4 ∨ c = 5 := by omega
theorem dnA_get (dn : Nat → Bool) {c : Nat} (h : c < 6) : (dnA dn)[c]? = some (.bool (dn c)) := by
  rcases lt6 h with rfl | rfl | rfl | rfl | rfl | rfl <;> rfl
theorem dnA_set (dn : Nat → Bool) {c : Nat} (h : c < 6) : (dnA dn).setIfInBounds c (.bool true) = dnA (updB dn c) := by
  rcases lt6 h with rfl | rfl | rfl | rfl | rfl | rfl <;> rfl
theorem dnA_true {dn : Nat → Bool} (h : ∀ c, c < 6 → dn c = true) : dnA dn = #[.bool true, .bool true, .bool true, .bool true, .bool true, .bool true] := by
  unfold dnA
  rw [h 0 (by omega), h 1 (by omega), h 2 (by omega), h 3 (by omega), h 4 (by omega), h 5 (by omega)]
/-- After j rounds. -/
def Jr (j : Nat) (S : LkS) : Prop := totL S 6 ≤ 30 ∧ (1 ≤ j → (∀ c, c < 6 → cleanL S c) ∧ (totL S 6 + j ≤ 31 ∨ totL S 6 = 0))
theorem Jr.start {S : LkS} (h : totL S 6 ≤ 30) : Jr 0 S := ⟨h, fun q => by omega⟩
theorem Jr.next {j : Nat} {S S' : LkS} (h : Jr j S) (hS : LkOk 6 S) (hR : RoundL 6 S 6 S') : Jr (j + 1) S' := by
  have hle := hR.le
  refine ⟨Nat.le_trans hle h.1, fun _ => ⟨fun c hc => hR.clean c hc, ?_⟩⟩
  by_cases h1 : 1 ≤ j
  · obtain ⟨q1, q2⟩ := h.2 h1
    rcases hR.fin hS q1 with q | q
    · rcases q2 with p | p
      · left; omega
      · right; omega
    · exact .inr q
  · have := h.1; left; omega
theorem Jr.zero {j : Nat} {S : LkS} (h : Jr j S) (hj : 31 ≤ j) : totL S 6 = 0 := by
  obtain ⟨_, q⟩ := h.2 (by omega)
  rcases q with q | q <;> omega
theorem stepL_all {n : Nat} {S0 S : LkS} {c : Nat} (hR : RoundL n S0 c S) (hc : c < n) (h0 : totL S0 n = 0) : (stepL S c).W c = [] := by
  have hz := hR.le
  have hw := tot_zero (S := S) (n := n) (by omega) c hc
  have : stepL S c = S := by unfold stepL; rw [hw]
  rw [this, hw]
end Go.Proofs.Ytlafmdpcabgcdaa
