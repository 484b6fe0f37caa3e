/-
  What a step leaves as it was: all but the blocks of a list.
-/
import Derived.Test.YtdgcninmpcmdcaaGreatBase
namespace Go.Proofs.YtdgcninmpcmdcaaGreat
open Go.RowKit

/-- w' has all that w has, but what lies in the blocks bs. -/
structure Gr (bs : List Nat) (w w' : World) : Prop where
  os : w'.os = w.os
  tape : w'.tape = w.tape
  output : w'.output = w.output
  size : w.heap.size ≤ w'.heap.size
  block : ∀ k, k < w.heap.size → k ∉ bs → w'.heap[k]? = w.heap[k]?

theorem Gr.refl (bs : List Nat) (w : World) : Gr bs w w := ⟨rfl, rfl, rfl, Nat.le_refl _, fun _ _ _ => rfl⟩
theorem Gr.trans {bs : List Nat} {a b c : World} (h : Gr bs a b) (k : Gr bs b c) : Gr bs a c :=
  ⟨k.os.trans h.os, k.tape.trans h.tape, k.output.trans h.output, Nat.le_trans h.size k.size, fun i hi hn => (k.block i (Nat.lt_of_lt_of_le hi h.size) hn).trans (h.block i hi hn)⟩
theorem Gr.mono {bs cs : List Nat} {w w' : World} (h : Gr bs w w') (hs : ∀ b ∈ bs, b ∈ cs) : Gr cs w w' :=
  ⟨h.os, h.tape, h.output, h.size, fun k hk hn => h.block k hk fun e => hn (hs k e)⟩
theorem Gr.of0 {cs : List Nat} {w w' : World} (h : Gr [] w w') : Gr cs w w' := h.mono fun _ e => by cases e
theorem Gr.ofBelow {cs : List Nat} {w w' : World} (h : Below w.heap.size w w') : Gr cs w w' := ⟨h.os, h.tape, h.output, h.size, fun k hk _ => h.block k hk⟩
theorem Gr.next0 {bs : List Nat} {a b c : World} (h : Gr bs a b) (k : Gr [] b c) : Gr bs a c := h.trans k.of0
theorem Gr.nextB {bs : List Nat} {a b c : World} (h : Gr bs a b) (k : Below b.heap.size b c) : Gr bs a c := h.trans (.ofBelow k)
/-- Blocks that are new since a do not count. -/
theorem Gr.nextN {bs cs : List Nat} {a b c : World} (h : Gr bs a b) (k : Gr cs b c) (hs : ∀ x ∈ cs, x ∈ bs ∨ a.heap.size ≤ x) : Gr bs a c :=
  ⟨k.os.trans h.os, k.tape.trans h.tape, k.output.trans h.output, Nat.le_trans h.size k.size, fun i hi hn => (k.block i (Nat.lt_of_lt_of_le hi h.size) (fun e => by rcases hs i e with q | q; exact hn q; omega)).trans (h.block i hi hn)⟩
theorem Gr.alloc {bs : List Nat} {a w : World} (h : Gr bs a w) (o : Obj) : Gr bs a (w.alloc o) :=
  h.trans ⟨rfl, rfl, rfl, by simp, fun k hk _ => Below.heap_alloc _ _ _ hk⟩
theorem Gr.setCell {bs : List Nat} {a w : World} (h : Gr bs a w) {p : Addr} (hp : p.block ∈ bs ∨ a.heap.size ≤ p.block) (u : Value) : Gr bs a (w.setCell p u) :=
  h.nextN (cs := [p.block]) ⟨rfl, rfl, rfl, by simp [World.setCell], fun k _ hn => Below.heap_setCell _ _ _ _ (fun e => hn (by simp [e]))⟩ (fun x hx => by simp at hx; subst hx; exact hp)
theorem Gr.drew {bs : List Nat} {a w : World} (h : Gr bs a w) : Gr bs a w.drew := ⟨h.os, h.tape, h.output, h.size, h.block⟩
theorem Gr.drewN {bs : List Nat} {a w : World} (h : Gr bs a w) (n : Nat) : Gr bs a (w.drewN n) := ⟨h.os, h.tape, h.output, h.size, h.block⟩
theorem Gr.grown {bs : List Nat} {a w w' : World} {row : Option Nat} (h : Gr bs a w) (hg : w.grownBy w' row) (hr : ∀ k, row = some k → k ∈ bs ∨ a.heap.size ≤ k) : Gr bs a w' :=
  h.nextN (cs := row.toList) ⟨hg.os, hg.tape, hg.output, hg.size, fun k hk hn => hg.block k hk (fun e => hn (by rw [← e]; simp))⟩ (fun x hx => hr x (by simpa using hx))
theorem Gr.below {bs : List Nat} {B : Nat} {w w' : World} (h : Gr bs w w') (hB : B ≤ w.heap.size) (hs : ∀ b ∈ bs, B ≤ b) : Below B w w' :=
  ⟨h.os, h.tape, h.output, h.size, fun k hk => h.block k (by omega) fun e => by have := hs k e; omega⟩
theorem Gr.below0 {w w' : World} (h : Gr [] w w') : Below w.heap.size w w' := h.below (Nat.le_refl _) fun _ e => by cases e
/-- Behind a step that writes blocks of the caller's own. -/
theorem Below_gr {bs : List Nat} {a w w' : World} (h : Below a.heap.size a w) (k : Gr bs w w') (hs : ∀ b ∈ bs, a.heap.size ≤ b) : Below a.heap.size a w' := h.trans (k.below h.size hs)
theorem Holds.gr {w w' : World} {b : Nat} {cs : Array Value} {t : TypeId} {bs : List Nat} (h : Holds w b cs t) (k : Gr bs w w') (hn : b ∉ bs) : Holds w' b cs t := (k.block b h.lt hn).trans h
theorem Holds.gr0 {w w' : World} {b : Nat} {cs : Array Value} {t : TypeId} (h : Holds w b cs t) (k : Gr [] w w') : Holds w' b cs t := h.gr k (by simp)
theorem own_gr {w w' : World} {base : Nat} {e : TypeId} {size n : Nat} {v : Value} {xs : List Value} {bs : List Nat} (h : w.ownsRow base e size v n xs) (k : Gr bs w w') (hn : ∀ b, v.ownBlock = some b → b ∉ bs) : w'.ownsRow base e size v n xs := by
  refine ⟨h.1, ?_⟩
  rcases h.2 with hz | ⟨g, cap, cur, rfl, hg, hh, rest⟩
  · exact .inl hz
  · exact .inr ⟨g, cap, cur, rfl, hg, (k.block g (Array.getElem?_eq_some_iff.1 hh).1 (hn g rfl)).trans hh, rest⟩
theorem own_gr0 {w w' : World} {base : Nat} {e : TypeId} {size n : Nat} {v : Value} {xs : List Value} (h : w.ownsRow base e size v n xs) (k : Gr [] w w') : w'.ownsRow base e size v n xs := own_gr h k fun _ _ => by simp

theorem Gr.cell0 {w w' : World} {b o : Nat} (h : Gr [] w w') (hb : b < w.heap.size) : w'.cell? ⟨b, o, none⟩ = w.cell? ⟨b, o, none⟩ := World.cell?_of_block (w := w) (h.block b hb (by simp))
/-- A block that an owned row lies in, known whole. -/
theorem own_holds {w : World} {base : Nat} {e : TypeId} {size n g : Nat} {xs : List Value} (h : w.ownsRow base e size (.slice (some ⟨g, 0, none⟩) n n) n xs) : Holds w g xs.toArray e := by
  rcases h.2 with ⟨hz, _⟩ | ⟨g', cap, cur, hv, _, hh, _, _, hs, ht⟩
  · cases hz
  · injection hv with a b c
    injection a with a
    injection a with a1 a2 a3
    subst a1
    subst c
    have : cur.toList.take (n * size) = cur.toList := List.take_of_length_le (by simp [hs])
    rw [this] at ht
    show w.heap[g]? = _
    rw [hh, ← ht]

end Go.Proofs.YtdgcninmpcmdcaaGreat
