/-
  Slices of pairs of ints (two cells an element), as lists.
-/
import Derived.Test.YtpkhfdcokcchdabGr
namespace Go.Proofs.Ytpkhfdcokcchdab
open Go.RowKit

def iv (z : Int) : Value := .int .i64 z
/-- The cells of a list of pairs. -/
def cells2 (l : List (Int × Int)) : List Value := l.flatMap fun e => [.int .i64 e.1, .int .i64 e.2]
theorem cells2_nil : cells2 [] = [] := rfl
theorem cells2_cons (e : Int × Int) (l : List (Int × Int)) : cells2 (e :: l) = .int .i64 e.1 :: .int .i64 e.2 :: cells2 l := rfl
theorem cells2_append (a b : List (Int × Int)) : cells2 (a ++ b) = cells2 a ++ cells2 b := by simp [cells2]
theorem cells2_len (l : List (Int × Int)) : (cells2 l).length = l.length * 2 := by
  induction l with
  | nil => rfl
  | cons e r ih => rw [cells2_cons, List.length_cons, List.length_cons, ih, List.length_cons]; omega
theorem cells2_get (l : List (Int × Int)) (i : Nat) (e : Int × Int) (h : l[i]? = some e) : (cells2 l)[i * 2]? = some (.int .i64 e.1) ∧ (cells2 l)[i * 2 + 1]? = some (.int .i64 e.2) := by
  induction l generalizing i with
  | nil => cases h
  | cons x r ih =>
    cases i with
    | zero => simp at h; subst h; exact ⟨rfl, rfl⟩
    | succ i =>
      have := ih i (by simpa using h)
      rw [cells2_cons, show (i + 1) * 2 = i * 2 + 1 + 1 by omega]
      simpa using this
theorem cells2_one (l : List (Int × Int)) : ∀ u ∈ cells2 l, u.oneCell' = true := by
  intro u hu
  obtain ⟨e, _, he⟩ := List.mem_flatMap.1 hu
  simp at he
  rcases he with rfl | rfl <;> rfl

/-- The cells from an address on read as the pairs. -/
def Rd2 (w : World) (ao : Option Addr) (l : List (Int × Int)) : Prop :=
  ∀ i e, l[i]? = some e → ∃ b o, ao = some ⟨b, o, none⟩ ∧ b < w.heap.size ∧ w.cell? ⟨b, o + i * 2, none⟩ = some (.int .i64 e.1) ∧ w.cell? ⟨b, o + i * 2 + 1, none⟩ = some (.int .i64 e.2)
theorem Rd2.nil (w : World) (ao : Option Addr) : Rd2 w ao [] := fun i e h => by simp at h
theorem Rd2.gr {w w' : World} {ao : Option Addr} {l : List (Int × Int)} {bs : List Nat} (h : Rd2 w ao l) (g : Gr bs w w') (hn : ∀ b o, ao = some ⟨b, o, none⟩ → b ∉ bs) : Rd2 w' ao l := by
  intro i e hi
  obtain ⟨b, o, rfl, h1, h2, h3⟩ := h i e hi
  have q := g.block b h1 (hn b o rfl)
  exact ⟨b, o, rfl, Nat.lt_of_lt_of_le h1 g.size, (World.cell?_of_block (a := ⟨b, _, none⟩) q).trans h2, (World.cell?_of_block (a := ⟨b, _, none⟩) q).trans h3⟩
theorem Rd2.gr0 {w w' : World} {ao : Option Addr} {l : List (Int × Int)} (h : Rd2 w ao l) (g : Gr [] w w') : Rd2 w' ao l := h.gr g (by simp)
theorem Rd2.below {w w' : World} {ao : Option Addr} {l : List (Int × Int)} (h : Rd2 w ao l) (g : Below w.heap.size w w') : Rd2 w' ao l := h.gr0 (.ofBelow g)
theorem Rd2.take {w : World} {ao : Option Addr} {l : List (Int × Int)} (h : Rd2 w ao l) (n : Nat) : Rd2 w ao (l.take n) := fun i e hi => by
  have hlt : i < n := by
    have := (List.getElem?_eq_some_iff.1 hi).1
    simp at this; omega
  rw [List.getElem?_take_of_lt hlt] at hi
  exact h i e hi
/-- The same, written with the cells' own numbers. -/
theorem Rd2.at {w : World} {b o : Nat} {l : List (Int × Int)} (h : Rd2 w (some ⟨b, o, none⟩) l) {i : Nat} {e : Int × Int} (hi : l[i]? = some e) : b < w.heap.size ∧ w.cell? ⟨b, o + i * 2, none⟩ = some (.int .i64 e.1) ∧ w.cell? ⟨b, o + i * 2 + 1, none⟩ = some (.int .i64 e.2) := by
  obtain ⟨b', o', hb, h1, h2, h3⟩ := h i e hi
  injection hb with hb
  injection hb with e1 e2
  subst e1 e2
  exact ⟨h1, h2, h3⟩
theorem Rd2.drop {w : World} {b o : Nat} {l : List (Int × Int)} (h : Rd2 w (some ⟨b, o, none⟩) l) (n : Nat) : Rd2 w (some ⟨b, o + n * 2, none⟩) (l.drop n) := fun i e hi => by
  rw [List.getElem?_drop] at hi
  obtain ⟨h1, h2, h3⟩ := h.at hi
  exact ⟨b, o + n * 2, rfl, h1, by rw [show o + n * 2 + i * 2 = o + (n + i) * 2 by omega]; exact h2, by rw [show o + n * 2 + i * 2 + 1 = o + (n + i) * 2 + 1 by omega]; exact h3⟩
/-- The slice v reads as the pairs l. -/
def Sl2 (w : World) (v : Value) (l : List (Int × Int)) : Prop := ∃ ao cap, v = .slice ao l.length cap ∧ Rd2 w ao l ∧ l.length ≤ cap ∧ cap ≤ maxLen ∧ (ao = none → cap = 0)
theorem Sl2.gr {w w' : World} {v : Value} {l : List (Int × Int)} {bs : List Nat} (h : Sl2 w v l) (g : Gr bs w w') (hn : ∀ b, v.ownBlock = some b → b ∉ bs) : Sl2 w' v l := by
  obtain ⟨ao, cap, rfl, h1, h2⟩ := h
  exact ⟨ao, cap, rfl, h1.gr g (fun b o e => hn b (by subst e; rfl)), h2⟩
theorem Sl2.gr0 {w w' : World} {v : Value} {l : List (Int × Int)} (h : Sl2 w v l) (g : Gr [] w w') : Sl2 w' v l := h.gr g (by simp)
theorem Sl2.nil (w : World) : Sl2 w (.slice none 0 0) [] := ⟨none, 0, rfl, Rd2.nil _ _, Nat.le_refl _, Nat.zero_le _, fun _ => rfl⟩
theorem own_sl2 {w : World} {base : Nat} {e : TypeId} {n : Nat} {v : Value} {l : List (Int × Int)} (h : w.ownsRow base e 2 v n (cells2 l)) : Sl2 w v l := by
  have hn : n = l.length := by have := h.1; rw [cells2_len] at this; omega
  subst hn
  have hl := h.lt
  have hc := fun g => h.cells (g := g)
  rcases h.2 with ⟨rfl, h0⟩ | ⟨g, cap, cur, rfl, hb, hg, h1, h2, h3, h4⟩
  · have : l = [] := List.length_eq_zero_iff.1 h0
    subst this
    exact Sl2.nil w
  · refine ⟨some ⟨g, 0, none⟩, cap, rfl, fun i x hi => ?_, h1, h2, fun e => by cases e⟩
    obtain ⟨q1, q2⟩ := cells2_get l i x hi
    have hadd : ∀ j, (⟨g, 0, none⟩ : Addr).add j = ⟨g, j, none⟩ := fun j => by unfold Addr.add; split <;> simp_all
    refine ⟨g, 0, rfl, (hl g rfl).2, ?_, ?_⟩
    · have := hc g rfl (i * 2) _ q1
      rw [hadd] at this
      rw [Nat.zero_add]; exact this
    · have := hc g rfl (i * 2 + 1) _ q2
      rw [hadd] at this
      rw [Nat.zero_add]; exact this
/-- A whole block that holds pairs. -/
theorem holds_rd2 {w : World} {b : Nat} {l : List (Int × Int)} {t : TypeId} (h : Holds w b (cells2 l).toArray t) : Rd2 w (some ⟨b, 0, none⟩) l := fun i e hi => by
  obtain ⟨q1, q2⟩ := cells2_get l i e hi
  refine ⟨b, 0, rfl, h.lt, ?_, ?_⟩
  · rw [Nat.zero_add, h.cell]; simpa using q1
  · rw [Nat.zero_add, h.cell]; simpa using q2

/-- What an element of a pair looks like. -/
def pv (e : Int × Int) : Value := .agg #[.int .i64 e.1, .int .i64 e.2]
theorem Rd2.cells {w : World} {ao : Option Addr} {l : List (Int × Int)} (h : Rd2 w ao l) {a : Addr} (ha : ao = some a) : ∀ j u, (cells2 l)[j]? = some u → w.cell? (a.add j) = some u := by
  intro j u hj
  have hlen := (List.getElem?_eq_some_iff.1 hj).1
  rw [cells2_len] at hlen
  have hi : j / 2 < l.length := by omega
  have q := List.getElem?_eq_getElem hi
  obtain ⟨q1, q2⟩ := cells2_get l _ _ q
  obtain ⟨b, o, hb, h1, h2, h3⟩ := h _ _ q
  rw [ha] at hb
  injection hb with hb
  subst hb
  have hadd : ∀ k, (⟨b, o, none⟩ : Addr).add k = ⟨b, o + k, none⟩ := fun k => by unfold Addr.add; split <;> simp_all
  rw [hadd]
  by_cases e : j % 2 = 0
  · have : j = j / 2 * 2 := by omega
    rw [this] at hj ⊢
    rw [q1] at hj
    injection hj with hj
    rw [← hj]; exact h2
  · have : j = j / 2 * 2 + 1 := by omega
    rw [this] at hj ⊢
    rw [q2] at hj
    injection hj with hj
    rw [← hj, ← Nat.add_assoc]; exact h3

end Go.Proofs.Ytpkhfdcokcchdab
