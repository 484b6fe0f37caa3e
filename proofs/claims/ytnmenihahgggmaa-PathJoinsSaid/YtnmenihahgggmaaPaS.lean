/-
  Layer 18: a slice of strings, read.
-/
import Derived.Test.YtnmenihahgggmaaPaP
import Derived.Test.YtnmenihahgggmaaGr
namespace Go.Proofs.Ytnmenihahgggmaa
open Go.RowKit

theorem infoStr : (Try.prog.info? 9).map (fun i => (i.zero, i.size, i.bytes)) = some (some (.string ⟨#[]⟩), 1, 16) := by kernel_rfl
/-- The cells from an address on read as strings. -/
def RdS (w : World) (ao : Option Addr) (L : List (List UInt8)) : Prop :=
  ∀ i x, L[i]? = some x → ∃ k o, ao = some ⟨k, o, none⟩ ∧ k < w.heap.size ∧ w.cell? ⟨k, o + i, none⟩ = some (sv x)
theorem RdS.gr0 {w w' : World} {ao : Option Addr} {L : List (List UInt8)} (h : RdS w ao L) (g : Gr [] w w') : RdS w' ao L := fun i x hi => by
  obtain ⟨k, o, h1, h2, h3⟩ := h i x hi
  exact ⟨k, o, h1, Nat.lt_of_lt_of_le h2 g.size, (g.cell0 h2).trans h3⟩
theorem RdS.nil (w : World) (ao : Option Addr) : RdS w ao [] := fun i x hi => by simp at hi
theorem RdS.cell {w : World} {k o : Nat} {L : List (List UInt8)} (h : RdS w (some ⟨k, o, none⟩) L) {i : Nat} {x : List UInt8} (hi : L[i]? = some x) : w.cell? ⟨k, o + i, none⟩ = some (sv x) ∧ k < w.heap.size := by
  obtain ⟨k', o', h1, h2, h3⟩ := h i x hi
  cases h1
  exact ⟨h3, h2⟩
theorem RdS.take {w : World} {ao : Option Addr} {L : List (List UInt8)} (h : RdS w ao L) (n : Nat) : RdS w ao (L.take n) := fun i x hi => by
  refine h i x ?_
  rw [List.getElem?_take] at hi
  split at hi
  · exact hi
  · cases hi
def SlS (w : World) (v : Value) (L : List (List UInt8)) : Prop :=
  ∃ ao cap, v = .slice ao L.length cap ∧ RdS w ao L ∧ L.length ≤ cap ∧ cap ≤ maxLen ∧ (ao = none → cap = 0)
theorem SlS.gr0 {w w' : World} {v : Value} {L : List (List UInt8)} (h : SlS w v L) (g : Gr [] w w') : SlS w' v L := by
  obtain ⟨ao, cap, h1, h2, h3⟩ := h
  exact ⟨ao, cap, h1, h2.gr0 g, h3⟩
theorem SlS.nil (w : World) : SlS w (.slice none 0 0) [] := ⟨none, 0, rfl, RdS.nil _ _, Nat.le_refl _, Nat.zero_le _, fun _ => rfl⟩
theorem SlS.some {w : World} {ao : Option Addr} {n cap : Nat} {L : List (List UInt8)} (h : SlS w (.slice ao n cap) L) : n = L.length ∧ RdS w ao L ∧ n ≤ cap ∧ cap ≤ maxLen ∧ (ao = none → cap = 0) := by
  obtain ⟨a, c, h1, h2, h3, h4, h5⟩ := h
  cases h1
  exact ⟨rfl, h2, h3, h4, h5⟩
/-- Where there is one, it has an address. -/
theorem SlS.addr {w : World} {ao : Option Addr} {n cap : Nat} {L : List (List UInt8)} (h : SlS w (.slice ao n cap) L) (hL : L ≠ []) : ∃ k o, ao = Option.some ⟨k, o, none⟩ ∧ k < w.heap.size := by
  obtain ⟨h1, h2, _⟩ := h.some
  cases L with
  | nil => exact absurd rfl hL
  | cons x r =>
    obtain ⟨k, o, q1, q2, _⟩ := h2 0 x rfl
    exact ⟨k, o, q1, q2⟩
theorem SlS.addr' {w : World} {ao : Option Addr} {n cap : Nat} {L : List (List UInt8)} (h : SlS w (.slice ao n cap) L) {k : Nat} {x : List UInt8} (hx : L[k]? = Option.some x) : ∃ b o, ao = Option.some ⟨b, o, none⟩ ∧ b < w.heap.size :=
  h.addr (fun e => by rw [e] at hx; simp at hx)
theorem own_slS {w : World} {base : Nat} {e : TypeId} {n : Nat} {v : Value} {L : List (List UInt8)} (h : w.ownsRow base e 1 v n (L.map sv)) : SlS w v L := by
  have hn : n = L.length := by have := h.1; simp at this; omega
  subst hn
  rcases h.2 with ⟨rfl, h0⟩ | ⟨g, cap, cur, rfl, hg, hh, hc, hm, hs, ht⟩
  · obtain rfl := List.length_eq_zero_iff.1 h0
    exact SlS.nil w
  · have h' : w.ownsRow base e 1 (.slice (some ⟨g, 0, none⟩) L.length cap) L.length (L.map sv) := h
    refine ⟨_, cap, rfl, fun i x hi => ?_, hc, hm, fun e => by cases e⟩
    have hlt := (List.getElem?_eq_some_iff.1 hi).1
    refine ⟨g, 0, rfl, (Array.getElem?_eq_some_iff.1 hh).1, ?_⟩
    rw [Nat.zero_add, h'.cellAt i (by omega)]
    simp [hi]

end Go.Proofs.Ytnmenihahgggmaa
