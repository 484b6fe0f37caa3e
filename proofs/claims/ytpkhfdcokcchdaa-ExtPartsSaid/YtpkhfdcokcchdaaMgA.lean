/-
  MgA: Reg, Base, Gr, SlE, RegT, AlP, AlQ, AlA, AlL, AlB, AlC, ExP, ExPq, ExA, ExB, ExC, ExD, ExE, ExF, ExG.
-/
import Derived.WalkKit
import Derived.Handy
import Derived.Lib.Hide
import Derived.Deep.QuietTactic
import Derived.BigQuiet
import Derived.KernelRfl
import Derived.Test.YtpkhfdcokcchdaaRows
import Derived.StillTailTactics
import Derived.Shelf.Spec.SlicesGrow
import Derived.Laws.AppendOwnNone
import Derived.WalkSpells
import Derived.Deep.RegionHeld3
import Derived.Deep.AppendLies
import Derived.BigRegion
import Derived.Deep.Onto

/-
  A region that draws its order, over a class of worlds that an invariant names: a call may make memory if it keeps the invariant.
-/
namespace Go.Proofs.Ytpkhfdcokcchdaa
open Go.RowKit

/-- A world of which I holds. -/
structure Cls (I : World → Prop) where
  w : World
  h : I w
theorem wp_region_cls {P : Program} {id : Nat} {Q : Exit → Act → World → Prop} {a : Act} {w : World} {l : List Oper} (I : World → Prop) (hm : P.follows .mixedOrders = true) (hB : Region.lexB .any l.toArray = true) (hI : I w.drew)
    (h : wpQuiet P l.toArray (fun w' => ∃ x : Cls I, w' = x.w) (fun a' => ∀ w', (∃ x : Cls I, w' = x.w) → Q .normal a' w') l a) : (Code.region id l.toArray true).wp P Q a w :=
  wp_region_quiet (C := fun w' => ∃ x : Cls I, w' = x.w) hm hB ⟨⟨w.drew, hI⟩, rfl⟩ (by simpa using h)
/-- A call within the class. -/
theorem cls_call {P : Program} {f : FuncId} {args : Array Value} {I : World → Prop} {v : Value} (x : Cls I) (h : Calls P f args x.w fun e w' => e = .returned v ∧ Below x.w.heap.size x.w w') (k : ∀ w', Below x.w.heap.size x.w w' → I w') :
    Calls P f args x.w fun e w' => e = .returned v ∧ ∃ y : Cls I, w' = y.w :=
  h.mono fun _ w' ⟨he, hb⟩ => ⟨he, ⟨w', k w' hb⟩, rfl⟩

/-! ### A block that is known whole -/
def Holds (w : World) (b : Nat) (cs : Array Value) (t : TypeId) : Prop := w.heap[b]? = some (.cells cs t (0, 0))
section
variable {w w' : World} {b : Nat} {cs : Array Value} {t : TypeId}
theorem Holds.lt (h : Holds w b cs t) : b < w.heap.size := (Array.getElem?_eq_some_iff.1 h).1
theorem Holds.cell (h : Holds w b cs t) (i : Nat) : w.cell? ⟨b, i, none⟩ = cs[i]? := cell_of_row w b i cs t (0, 0) h
theorem Holds.frozen (h : Holds w b cs t) (i : Nat) : w.frozen? ⟨b, i, none⟩ = false := frozen_of_row w b i cs t h
theorem Holds.below (h : Holds w b cs t) (hb : Below w.heap.size w w') : Holds w' b cs t := (hb.block b h.lt).trans h
theorem Holds.new (w : World) (cs : Array Value) (t : TypeId) : Holds (w.alloc (.cells cs t)) w.heap.size cs t := heap_alloc_new w _
theorem Holds.alloc (h : Holds w b cs t) (o : Obj) : Holds (w.alloc o) b cs t := (Below.heap_alloc w o b h.lt).trans h
theorem Holds.far (h : Holds w b cs t) {a : Addr} (ha : b ≠ a.block) (u : Value) : Holds (w.setCell a u) b cs t := (Below.heap_setCell w a u b ha).trans h
theorem Holds.drew (h : Holds w b cs t) : Holds w.drew b cs t := h
theorem Holds.drewN (h : Holds w b cs t) (n : Nat) : Holds (w.drewN n) b cs t := h
theorem Holds.set (h : Holds w b cs t) (i : Nat) (u : Value) : Holds (w.setCell ⟨b, i, none⟩ u) b (cs.setIfInBounds i u) t := heap_setCell_same w b i cs t u h
theorem Holds.three {x y z : Value} (h : Holds w b #[x, y, z] t) : w.cell? ⟨b, 0, none⟩ = some x ∧ w.cell? ⟨b, 1, none⟩ = some y ∧ w.cell? ⟨b, 2, none⟩ = some z := ⟨h.cell 0, h.cell 1, h.cell 2⟩
theorem Holds.two {x y : Value} (h : Holds w b #[x, y] t) : w.cell? ⟨b, 0, none⟩ = some x ∧ w.cell? ⟨b, 1, none⟩ = some y := ⟨h.cell 0, h.cell 1⟩
end
theorem below_next {w w1 w2 : World} (h : Below w.heap.size w w1) (k : Below w1.heap.size w1 w2) : Below w.heap.size w w2 := h.trans (k.mono h.size)
theorem below_new {w w1 : World} (h : Below w.heap.size w w1) (o : Obj) : Below w.heap.size w (w1.alloc o) := h.alloc h.size o

end Go.Proofs.Ytpkhfdcokcchdaa

/-
  What many texts share: worlds below a bound; max with 0; small arithmetic.
-/
namespace Go.Proofs.Ytpkhfdcokcchdaa
open Go.RowKit

theorem own_keep {w w' : World} {base : Nat} {e : TypeId} {size n : Nat} {v : Value} {xs : List Value} (h : w.ownsRow base e size v n xs) (hb : Below w.heap.size w w') : w'.ownsRow base e size v n xs := by
  refine ⟨h.1, ?_⟩
  rcases h.2 with hn | ⟨g, cap, cur, rfl, hg, hh, rest⟩
  · exact .inl hn
  · exact .inr ⟨g, cap, cur, rfl, hg, (hb.block g (Array.getElem?_eq_some_iff.1 hh).1).trans hh, rest⟩
def mx (y : Int) : Int := max 0 y
theorem mx_nonneg (y : Int) : 0 ≤ mx y := by unfold mx; omega
theorem max0 (P : Program) (ts : Array TypeId) (t : TypeId) (y : Int) (w : World) : (Builtin.max_ ts t #[.int .i64 0, .int .i64 y]).run P w = .ok (.int .i64 (mx y)) w := by
  rw [run_max_int2]
  have : (if y > 0 then y else 0) = mx y := by unfold mx; split <;> omega
  rw [this]
theorem bcellG {W w1 : World} (hb : Below W.heap.size W w1) : (∀ b o, b < W.heap.size → w1.cell? ⟨b, o, none⟩ = W.cell? ⟨b, o, none⟩) ∧ (∀ b o, b < W.heap.size → w1.frozen? ⟨b, o, none⟩ = W.frozen? ⟨b, o, none⟩) :=
  ⟨fun b o h => hb.cell (p := ⟨b, o, none⟩) h, fun b o h => hb.frozen (p := ⟨b, o, none⟩) h⟩
theorem Below_nx {w w1 w2 : World} (h : Below w.heap.size w w1) (k : Below w1.heap.size w1 w2) : Below w.heap.size w w2 := h.trans (k.mono h.size)
theorem natU64 {a : Int} (h : (Lit.int .u64 a).wf = true) : ∃ n : Nat, a = n ∧ n < 18446744073709551616 := by
  have := bounds_u64 h
  exact ⟨a.toNat, by omega, by omega⟩
theorem natU8 {a : Int} (h : (Lit.int .u8 a).wf = true) : ∃ n : Nat, a = n ∧ n < 256 := by
  have := bounds_u8 h
  exact ⟨a.toNat, by omega, by omega⟩
theorem natU16 {a : Int} (h : (Lit.int .u16 a).wf = true) : ∃ n : Nat, a = n ∧ n < 65536 := by
  have := bounds_u16 h
  exact ⟨a.toNat, by omega, by omega⟩
theorem made_one (v : Value) (hv : Value.cells v = #[v]) (n : Nat) : (madeCells (Value.cells v) (n * 1)).toList = List.replicate n v := by
  rw [hv]
  apply List.ext_getElem
  · simp [madeCells]
  · intro i h1 h2
    simp [madeCells, Nat.mod_one]

end Go.Proofs.Ytpkhfdcokcchdaa

/-
  What a step leaves as it was: all but the blocks of a list.
-/
namespace Go.Proofs.Ytpkhfdcokcchdaa
open Go.RowKit

/-- w' has all that w has, but what lies in the blocks bs. -/
structure Gr (bs : List Nat) (w w' : World) : Prop where
  os : w'.os = w.os
  tape : w'.tape = w.tape
  output : w'.output = w.output
  size : w.heap.size ≤ w'.heap.size
  block : ∀ k, k < w.heap.size → k ∉ bs → w'.heap[k]? = w.heap[k]?

theorem Gr.refl (bs : List Nat) (w : World) : Gr bs w w := ⟨rfl, rfl, rfl, Nat.le_refl _, fun _ _ _ => rfl⟩
theorem Gr.trans {bs : List Nat} {a b c : World} (h : Gr bs a b) (k : Gr bs b c) : Gr bs a c :=
  ⟨k.os.trans h.os, k.tape.trans h.tape, k.output.trans h.output, Nat.le_trans h.size k.size, fun i hi hn => (k.block i (Nat.lt_of_lt_of_le hi h.size) hn).trans (h.block i hi hn)⟩
theorem Gr.mono {bs cs : List Nat} {w w' : World} (h : Gr bs w w') (hs : ∀ b ∈ bs, b ∈ cs) : Gr cs w w' :=
  ⟨h.os, h.tape, h.output, h.size, fun k hk hn => h.block k hk fun e => hn (hs k e)⟩
theorem Gr.of0 {cs : List Nat} {w w' : World} (h : Gr [] w w') : Gr cs w w' := h.mono fun _ e => by cases e
theorem Gr.ofBelow {cs : List Nat} {w w' : World} (h : Below w.heap.size w w') : Gr cs w w' := ⟨h.os, h.tape, h.output, h.size, fun k hk _ => h.block k hk⟩
theorem Gr.next0 {bs : List Nat} {a b c : World} (h : Gr bs a b) (k : Gr [] b c) : Gr bs a c := h.trans k.of0
theorem Gr.nextB {bs : List Nat} {a b c : World} (h : Gr bs a b) (k : Below b.heap.size b c) : Gr bs a c := h.trans (.ofBelow k)
/-- Blocks that are new since a do not count. -/
theorem Gr.nextN {bs cs : List Nat} {a b c : World} (h : Gr bs a b) (k : Gr cs b c) (hs : ∀ x ∈ cs, x ∈ bs ∨ a.heap.size ≤ x) : Gr bs a c :=
  ⟨k.os.trans h.os, k.tape.trans h.tape, k.output.trans h.output, Nat.le_trans h.size k.size, fun i hi hn => (k.block i (Nat.lt_of_lt_of_le hi h.size) (fun e => by rcases hs i e with q | q; exact hn q; omega)).trans (h.block i hi hn)⟩
theorem Gr.alloc {bs : List Nat} {a w : World} (h : Gr bs a w) (o : Obj) : Gr bs a (w.alloc o) :=
  h.trans ⟨rfl, rfl, rfl, by simp, fun k hk _ => Below.heap_alloc _ _ _ hk⟩
theorem Gr.setCell {bs : List Nat} {a w : World} (h : Gr bs a w) {p : Addr} (hp : p.block ∈ bs ∨ a.heap.size ≤ p.block) (u : Value) : Gr bs a (w.setCell p u) :=
  h.nextN (cs := [p.block]) ⟨rfl, rfl, rfl, by simp [World.setCell], fun k _ hn => Below.heap_setCell _ _ _ _ (fun e => hn (by simp [e]))⟩ (fun x hx => by simp at hx; subst hx; exact hp)
theorem Gr.drew {bs : List Nat} {a w : World} (h : Gr bs a w) : Gr bs a w.drew := ⟨h.os, h.tape, h.output, h.size, h.block⟩
theorem Gr.drewN {bs : List Nat} {a w : World} (h : Gr bs a w) (n : Nat) : Gr bs a (w.drewN n) := ⟨h.os, h.tape, h.output, h.size, h.block⟩
theorem Gr.grown {bs : List Nat} {a w w' : World} {row : Option Nat} (h : Gr bs a w) (hg : w.grownBy w' row) (hr : ∀ k, row = some k → k ∈ bs ∨ a.heap.size ≤ k) : Gr bs a w' :=
  h.nextN (cs := row.toList) ⟨hg.os, hg.tape, hg.output, hg.size, fun k hk hn => hg.block k hk (fun e => hn (by rw [← e]; simp))⟩ (fun x hx => hr x (by simpa using hx))
theorem Gr.below {bs : List Nat} {B : Nat} {w w' : World} (h : Gr bs w w') (hB : B ≤ w.heap.size) (hs : ∀ b ∈ bs, B ≤ b) : Below B w w' :=
  ⟨h.os, h.tape, h.output, h.size, fun k hk => h.block k (by omega) fun e => by have := hs k e; omega⟩
theorem Gr.below0 {w w' : World} (h : Gr [] w w') : Below w.heap.size w w' := h.below (Nat.le_refl _) fun _ e => by cases e
/-- Behind a step that writes blocks of the caller's own. -/
theorem Below_gr {bs : List Nat} {a w w' : World} (h : Below a.heap.size a w) (k : Gr bs w w') (hs : ∀ b ∈ bs, a.heap.size ≤ b) : Below a.heap.size a w' := h.trans (k.below h.size hs)
theorem Holds.gr {w w' : World} {b : Nat} {cs : Array Value} {t : TypeId} {bs : List Nat} (h : Holds w b cs t) (k : Gr bs w w') (hn : b ∉ bs) : Holds w' b cs t := (k.block b h.lt hn).trans h
theorem Holds.gr0 {w w' : World} {b : Nat} {cs : Array Value} {t : TypeId} (h : Holds w b cs t) (k : Gr [] w w') : Holds w' b cs t := h.gr k (by simp)
theorem own_gr {w w' : World} {base : Nat} {e : TypeId} {size n : Nat} {v : Value} {xs : List Value} {bs : List Nat} (h : w.ownsRow base e size v n xs) (k : Gr bs w w') (hn : ∀ b, v.ownBlock = some b → b ∉ bs) : w'.ownsRow base e size v n xs := by
  refine ⟨h.1, ?_⟩
  rcases h.2 with hz | ⟨g, cap, cur, rfl, hg, hh, rest⟩
  · exact .inl hz
  · exact .inr ⟨g, cap, cur, rfl, hg, (k.block g (Array.getElem?_eq_some_iff.1 hh).1 (hn g rfl)).trans hh, rest⟩
theorem own_gr0 {w w' : World} {base : Nat} {e : TypeId} {size n : Nat} {v : Value} {xs : List Value} (h : w.ownsRow base e size v n xs) (k : Gr [] w w') : w'.ownsRow base e size v n xs := own_gr h k fun _ _ => by simp

theorem Gr.cell0 {w w' : World} {b o : Nat} (h : Gr [] w w') (hb : b < w.heap.size) : w'.cell? ⟨b, o, none⟩ = w.cell? ⟨b, o, none⟩ := World.cell?_of_block (w := w) (h.block b hb (by simp))
/-- A block that an owned row lies in, known whole. -/
theorem own_holds {w : World} {base : Nat} {e : TypeId} {size n g : Nat} {xs : List Value} (h : w.ownsRow base e size (.slice (some ⟨g, 0, none⟩) n n) n xs) : Holds w g xs.toArray e := by
  rcases h.2 with ⟨hz, _⟩ | ⟨g', cap, cur, hv, _, hh, _, _, hs, ht⟩
  · cases hz
  · injection hv with a b c
    injection a with a
    injection a with a1 a2 a3
    subst a1
    subst c
    have : cur.toList.take (n * size) = cur.toList := List.take_of_length_le (by simp [hs])
    rw [this] at ht
    show w.heap[g]? = _
    rw [hh, ← ht]

end Go.Proofs.Ytpkhfdcokcchdaa

/-
  Slices of pairs of ints (two cells an element), as lists.
-/
namespace Go.Proofs.Ytpkhfdcokcchdaa
open Go.RowKit

def iv (z : Int) : Value := .int .i64 z
/-- The cells of a list of pairs. -/
def cells2 (l : List (Int × Int)) : List Value := l.flatMap fun e => [.int .i64 e.1, .int .i64 e.2]
theorem cells2_nil : cells2 [] = [] := rfl
theorem cells2_cons (e : Int × Int) (l : List (Int × Int)) : cells2 (e :: l) = .int .i64 e.1 :: .int .i64 e.2 :: cells2 l := rfl
theorem cells2_append (a b : List (Int × Int)) : cells2 (a ++ b) = cells2 a ++ cells2 b := by simp [cells2]
theorem cells2_len (l : List (Int × Int)) : (cells2 l).length = l.length * 2 := by
  induction l with
  | nil => rfl
  | cons e r ih => rw [cells2_cons, List.length_cons, List.length_cons, ih, List.length_cons]; omega
theorem cells2_get (l : List (Int × Int)) (i : Nat) (e : Int × Int) (h : l[i]? = some e) : (cells2 l)[i * 2]? = some (.int .i64 e.1) ∧ (cells2 l)[i * 2 + 1]? = some (.int .i64 e.2) := by
  induction l generalizing i with
  | nil => cases h
  | cons x r ih =>
    cases i with
    | zero => simp at h; subst h; exact ⟨rfl, rfl⟩
    | succ i =>
      have := ih i (by simpa using h)
      rw [cells2_cons, show (i + 1) * 2 = i * 2 + 1 + 1 by omega]
      simpa using this
theorem cells2_one (l : List (Int × Int)) : ∀ u ∈ cells2 l, u.oneCell' = true := by
  intro u hu
  obtain ⟨e, _, he⟩ := List.mem_flatMap.1 hu
  simp at he
  rcases he with rfl | rfl <;> rfl

/-- The cells from an address on read as the pairs. -/
def Rd2 (w : World) (ao : Option Addr) (l : List (Int × Int)) : Prop :=
  ∀ i e, l[i]? = some e → ∃ b o, ao = some ⟨b, o, none⟩ ∧ b < w.heap.size ∧ w.cell? ⟨b, o + i * 2, none⟩ = some (.int .i64 e.1) ∧ w.cell? ⟨b, o + i * 2 + 1, none⟩ = some (.int .i64 e.2)
theorem Rd2.nil (w : World) (ao : Option Addr) : Rd2 w ao [] := fun i e h => by simp at h
theorem Rd2.gr {w w' : World} {ao : Option Addr} {l : List (Int × Int)} {bs : List Nat} (h : Rd2 w ao l) (g : Gr bs w w') (hn : ∀ b o, ao = some ⟨b, o, none⟩ → b ∉ bs) : Rd2 w' ao l := by
  intro i e hi
  obtain ⟨b, o, rfl, h1, h2, h3⟩ := h i e hi
  have q := g.block b h1 (hn b o rfl)
  exact ⟨b, o, rfl, Nat.lt_of_lt_of_le h1 g.size, (World.cell?_of_block (a := ⟨b, _, none⟩) q).trans h2, (World.cell?_of_block (a := ⟨b, _, none⟩) q).trans h3⟩
theorem Rd2.gr0 {w w' : World} {ao : Option Addr} {l : List (Int × Int)} (h : Rd2 w ao l) (g : Gr [] w w') : Rd2 w' ao l := h.gr g (by simp)
theorem Rd2.below {w w' : World} {ao : Option Addr} {l : List (Int × Int)} (h : Rd2 w ao l) (g : Below w.heap.size w w') : Rd2 w' ao l := h.gr0 (.ofBelow g)
theorem Rd2.take {w : World} {ao : Option Addr} {l : List (Int × Int)} (h : Rd2 w ao l) (n : Nat) : Rd2 w ao (l.take n) := fun i e hi => by
  have hlt : i < n := by
    have := (List.getElem?_eq_some_iff.1 hi).1
    simp at this; omega
  rw [List.getElem?_take_of_lt hlt] at hi
  exact h i e hi
/-- The same, written with the cells' own numbers. -/
theorem Rd2.at {w : World} {b o : Nat} {l : List (Int × Int)} (h : Rd2 w (some ⟨b, o, none⟩) l) {i : Nat} {e : Int × Int} (hi : l[i]? = some e) : b < w.heap.size ∧ w.cell? ⟨b, o + i * 2, none⟩ = some (.int .i64 e.1) ∧ w.cell? ⟨b, o + i * 2 + 1, none⟩ = some (.int .i64 e.2) := by
  obtain ⟨b', o', hb, h1, h2, h3⟩ := h i e hi
  injection hb with hb
  injection hb with e1 e2
  subst e1 e2
  exact ⟨h1, h2, h3⟩
theorem Rd2.drop {w : World} {b o : Nat} {l : List (Int × Int)} (h : Rd2 w (some ⟨b, o, none⟩) l) (n : Nat) : Rd2 w (some ⟨b, o + n * 2, none⟩) (l.drop n) := fun i e hi => by
  rw [List.getElem?_drop] at hi
  obtain ⟨h1, h2, h3⟩ := h.at hi
  exact ⟨b, o + n * 2, rfl, h1, by rw [show o + n * 2 + i * 2 = o + (n + i) * 2 by omega]; exact h2, by rw [show o + n * 2 + i * 2 + 1 = o + (n + i) * 2 + 1 by omega]; exact h3⟩
/-- The slice v reads as the pairs l. -/
def Sl2 (w : World) (v : Value) (l : List (Int × Int)) : Prop := ∃ ao cap, v = .slice ao l.length cap ∧ Rd2 w ao l ∧ l.length ≤ cap ∧ cap ≤ maxLen ∧ (ao = none → cap = 0)
theorem Sl2.gr {w w' : World} {v : Value} {l : List (Int × Int)} {bs : List Nat} (h : Sl2 w v l) (g : Gr bs w w') (hn : ∀ b, v.ownBlock = some b → b ∉ bs) : Sl2 w' v l := by
  obtain ⟨ao, cap, rfl, h1, h2⟩ := h
  exact ⟨ao, cap, rfl, h1.gr g (fun b o e => hn b (by subst e; rfl)), h2⟩
theorem Sl2.gr0 {w w' : World} {v : Value} {l : List (Int × Int)} (h : Sl2 w v l) (g : Gr [] w w') : Sl2 w' v l := h.gr g (by simp)
theorem Sl2.nil (w : World) : Sl2 w (.slice none 0 0) [] := ⟨none, 0, rfl, Rd2.nil _ _, Nat.le_refl _, Nat.zero_le _, fun _ => rfl⟩
theorem own_sl2 {w : World} {base : Nat} {e : TypeId} {n : Nat} {v : Value} {l : List (Int × Int)} (h : w.ownsRow base e 2 v n (cells2 l)) : Sl2 w v l := by
  have hn : n = l.length := by have := h.1; rw [cells2_len] at this; omega
  subst hn
  have hl := h.lt
  have hc := fun g => h.cells (g := g)
  rcases h.2 with ⟨rfl, h0⟩ | ⟨g, cap, cur, rfl, hb, hg, h1, h2, h3, h4⟩
  · have : l = [] := List.length_eq_zero_iff.1 h0
    subst this
    exact Sl2.nil w
  · refine ⟨some ⟨g, 0, none⟩, cap, rfl, fun i x hi => ?_, h1, h2, fun e => by cases e⟩
    obtain ⟨q1, q2⟩ := cells2_get l i x hi
    have hadd : ∀ j, (⟨g, 0, none⟩ : Addr).add j = ⟨g, j, none⟩ := fun j => by unfold Addr.add; split <;> simp_all
    refine ⟨g, 0, rfl, (hl g rfl).2, ?_, ?_⟩
    · have := hc g rfl (i * 2) _ q1
      rw [hadd] at this
      rw [Nat.zero_add]; exact this
    · have := hc g rfl (i * 2 + 1) _ q2
      rw [hadd] at this
      rw [Nat.zero_add]; exact this
/-- A whole block that holds pairs. -/
theorem holds_rd2 {w : World} {b : Nat} {l : List (Int × Int)} {t : TypeId} (h : Holds w b (cells2 l).toArray t) : Rd2 w (some ⟨b, 0, none⟩) l := fun i e hi => by
  obtain ⟨q1, q2⟩ := cells2_get l i e hi
  refine ⟨b, 0, rfl, h.lt, ?_, ?_⟩
  · rw [Nat.zero_add, h.cell]; simpa using q1
  · rw [Nat.zero_add, h.cell]; simpa using q2

/-- What an element of a pair looks like. -/
def pv (e : Int × Int) : Value := .agg #[.int .i64 e.1, .int .i64 e.2]
theorem Rd2.cells {w : World} {ao : Option Addr} {l : List (Int × Int)} (h : Rd2 w ao l) {a : Addr} (ha : ao = some a) : ∀ j u, (cells2 l)[j]? = some u → w.cell? (a.add j) = some u := by
  intro j u hj
  have hlen := (List.getElem?_eq_some_iff.1 hj).1
  rw [cells2_len] at hlen
  have hi : j / 2 < l.length := by omega
  have q := List.getElem?_eq_getElem hi
  obtain ⟨q1, q2⟩ := cells2_get l _ _ q
  obtain ⟨b, o, hb, h1, h2, h3⟩ := h _ _ q
  rw [ha] at hb
  injection hb with hb
  subst hb
  have hadd : ∀ k, (⟨b, o, none⟩ : Addr).add k = ⟨b, o + k, none⟩ := fun k => by unfold Addr.add; split <;> simp_all
  rw [hadd]
  by_cases e : j % 2 = 0
  · have : j = j / 2 * 2 := by omega
    rw [this] at hj ⊢
    rw [q1] at hj
    injection hj with hj
    rw [← hj]; exact h2
  · have : j = j / 2 * 2 + 1 := by omega
    rw [this] at hj ⊢
    rw [q2] at hj
    injection hj with hj
    rw [← hj, ← Nat.add_assoc]; exact h3

end Go.Proofs.Ytpkhfdcokcchdaa

/-
  A region that draws its order: operations that read, and calls that may make memory within a class of worlds, in whatever order; behind them a tail in forced order.
-/
namespace Go.Proofs.Ytpkhfdcokcchdaa
open Go.RowKit

section
variable {P : Program} {ops : Array Oper} {md : Region.Mode} {C : World → Prop}
def wpHeadQ (P : Program) (md : Region.Mode) (ops : Array Oper) (C : World → Prop) (n : Nat) (L : Array Bool → Act → Prop) : Nat → Array Bool → Act → Prop
  | 0, listed, a => L listed a
  | f + 1, listed, a =>
    Region.ready md ops listed ≠ [] ∧ ∀ i ∈ Region.ready md ops listed, i < n ∧ qOp P ops C i (wpHeadQ P md ops C n L f (listed.setIfInBounds i true)) a
theorem wpAny_of_headQ {n g : Nat} {L : Array Bool → Act → Prop} {Q' : Exit → Act → World → Prop} (hL : ∀ listed a w, C w → L listed a → wpAny P md ops Q' g listed a w) :
    ∀ (f : Nat) (listed : Array Bool) (a : Act) (w : World), C w → wpHeadQ P md ops C n L f listed a → wpAny P md ops Q' (f + g) listed a w
  | 0, listed, a, w, hw, h => by rw [Nat.zero_add]; exact hL _ _ _ hw h
  | f + 1, listed, a, w, hw, h => by
    rw [show f + 1 + g = (f + g) + 1 by omega]
    exact ⟨fun h0 => absurd h0 h.1, fun i hi => wpOp_of_qOp hw (fun a' w' hw' h' => wpAny_of_headQ hL f _ a' w' hw' h') (h.2 i hi).2⟩
theorem wpHeadQ_first {n i : Nat} {oi : Oper} {v : Value} {L : Array Bool → Act → Prop} (hi : ops[i]? = some oi) (hsel : ∀ (j : Nat) (o : Oper) cs b, ops[j]? = some o → o.op ≠ .select cs b)
    (hs : Region.sinkB md ops n = true) (hc : Region.chainB md ops n = true) (hn : n < ops.size) (hin : i < n)
    (hdone : ∀ listed a, L listed a → ∀ j ∈ Region.ready md ops listed, n ≤ j) :
    ∀ (f : Nat) (listed : Array Bool) (a : Act), HeadInv md ops n listed →
      (∀ j oj, ops[j]? = some oj → j ≠ i → listed.getD j true = false → (∀ e ∈ oj.after, Region.binds md e = true → e.on ≠ i) → oi.apart ops oj = true) →
      i ∈ Region.ready md ops listed → YieldsIn P ops C oi v a →
      wpHeadQ P md ops C n L f (listed.setIfInBounds i true) (a.put oi.dst v) → wpHeadQ P md ops C n L (f + 1) listed a := by
  intro f
  induction f with
  | zero =>
    intro listed a inv _ hr hy H
    have hun := (mem_ready.1 hr).1
    refine ⟨fun h => (by rw [h] at hr; cases hr), fun j hj => ?_⟩
    have hjn : j < n := by
      rcases Nat.lt_or_ge j n with h | h
      · exact h
      · exact absurd hj (tail_waits hs hc hn inv _ i rfl hin hun j h)
    refine ⟨hjn, ?_⟩
    by_cases hji : j = i
    · subst hji; exact hy.qOp hi H
    · have := hdone _ _ H j (ready_mono hj hji)
      omega
  | succ f ih =>
    intro listed a inv hfree hr hy H
    have hun := (mem_ready.1 hr).1
    refine ⟨fun h => (by rw [h] at hr; cases hr), fun j hj => ?_⟩
    have hjn : j < n := by
      rcases Nat.lt_or_ge j n with h | h
      · exact h
      · exact absurd hj (tail_waits hs hc hn inv _ i rfl hin hun j h)
    refine ⟨hjn, ?_⟩
    by_cases hji : j = i
    · subst hji; exact hy.qOp hi H
    · have h1 := (H.2 j (ready_mono hj hji)).2
      obtain ⟨hjun, oj, hoj, hall⟩ := mem_ready.1 hj
      have hnot : ∀ e ∈ oj.after, Region.binds md e = true → e.on ≠ i := fun e he hb heq => by
        have h1 := hall e he hb
        rw [heq, getD_both hun] at h1
        cases h1
      have h2 := qOp_put hoj (hfree j oj hoj hji hjun hnot) (fun cs b => hsel i oi cs b hi) (fun cs b => hsel j oj cs b hoj) hy h1
      have hfree' : ∀ k ok, ops[k]? = some ok → k ≠ i → (listed.setIfInBounds j true).getD k true = false →
          (∀ e ∈ ok.after, Region.binds md e = true → e.on ≠ i) → oi.apart ops ok = true := fun k ok hk hki hun hno => by
        refine hfree k ok hk hki ?_ hno
        by_cases hjk : j = k
        · subst hjk; exact hjun
        · rw [getD_set_ne true hjk] at hun; exact hun
      refine qOp_mono (fun a' h3 => ih (listed.setIfInBounds j true) a' (inv.set hj hjn) hfree' (ready_mono hr (Ne.symm hji)) h3.1 ?_) h2
      rw [Array.setIfInBounds_comm _ _ hji]
      exact h3.2
theorem wpHeadQ_lex {n g : Nat} {Lq : Act → Prop} (hsel : Region.noSelect ops = true) (hs : Region.sinkB md ops n = true) (hc : Region.chainB md ops n = true) (hn : n < ops.size) :
    ∀ (l : List Oper) (k : Nat) (listed : Array Bool) (a : Act), (∀ j, j < l.length → l[j]? = ops[k + j]?) → k + l.length = n → HeadInv md ops n listed →
    Region.lexHead md ops g l.length k listed = true → wpQuiet P ops C Lq l a →
    wpHeadQ P md ops C n (fun listed' a' => Region.seqB md ops g n listed' = true ∧ Lq a') l.length listed a
  | [], k, listed, a, _, hk, _, hB, h => by
    have : k = n := by simpa using hk
    subst this
    exact ⟨by simpa [Region.lexHead] using hB, h⟩
  | o :: l, k, listed, a, hl, hk, inv, hB, h => by
    have h0 : ops[k]? = some o := by simpa using (hl 0 (by simp)).symm
    simp only [List.length_cons, Region.lexHead, Bool.and_eq_true] at hB
    obtain ⟨⟨hr, hf⟩, hB'⟩ := hB
    have hkn : k < n := by simp only [List.length_cons] at hk; omega
    have hr' : k ∈ Region.ready md ops listed := by simpa using hr
    have hst : qOp P ops C k (wpQuiet P ops C Lq l) a := by unfold qOp; simp only [h0]; exact h
    obtain ⟨v, hy, hK⟩ := yieldsIn_of_qOp h0 hst
    exact wpHeadQ_first h0 (Region.noSelect_spec hsel) hs hc hn hkn (fun listed' a' hL => seqB_ready hL.1) l.length listed a inv (Region.free_spec h0 hf) hr' hy
      (wpHeadQ_lex hsel hs hc hn l (k + 1) _ _ (fun j hj => by have := hl (j + 1) (by simp; omega); simpa [Nat.add_assoc, Nat.add_comm 1 j] using this) (by simp only [List.length_cons] at hk; omega) (inv.set hr' hkn) hB' hK)
theorem wp_region_quiet_tail {id : Nat} {Q : Exit → Act → World → Prop} {a : Act} {w : World} {l : List Oper} (n : Nat) (hm : P.follows .mixedOrders = true) (hB : Region.lexTailB .any l.toArray n = true) (hC : C w.drew)
    (h : wpQuiet P l.toArray C (fun a' => ∀ w', C w' → wpList P l.toArray Q (l.drop n) a' w') (l.take n) a) : (Code.region id l.toArray true).wp P Q a w := by
  simp only [Region.lexTailB, Bool.and_eq_true, decide_eq_true_eq] at hB
  obtain ⟨⟨⟨⟨hsel, hn⟩, hs⟩, hc⟩, hlex⟩ := hB
  have hn' : n < l.length := by simpa using hn
  have htl : (l.take n).length = n := by simp; omega
  have hdl : (l.drop n).length = l.toArray.size - n := by simp
  have inv0 : HeadInv .any l.toArray n (Array.replicate l.toArray.size false) :=
    ⟨by simp, fun j oj _ hl => (by rw [getD_replicate_false] at hl; cases hl), fun t _ ht => getD_in (by simpa using ht) (getD_replicate_false _ _)⟩
  have H := wpHeadQ_lex (md := .any) (g := l.toArray.size - n) hsel hs hc hn (l.take n) 0 _ a (fun j hj => by
    have hj' : j < n := by rw [htl] at hj; exact hj
    simp [hj']) (by simpa using htl) inv0 (by rw [htl]; exact hlex) h
  refine wp_region_any hm ?_
  have := wpAny_of_headQ (Q' := Q) (g := l.toArray.size - n) (fun listed a' w' hw' hL => by
    have := wpAny_of_seq (md := .any) (Q' := Q) (l.drop n) n listed a' w' (fun j => by simp [List.getElem?_drop]) (by rw [hdl]; exact hL.1) (hL.2 w' hw')
    rwa [hdl] at this) _ _ _ _ (show C { w with drawn := w.drawn + 1 } from hC) H
  rw [htl, show n + (l.toArray.size - n) = l.toArray.size by omega] at this
  exact this
end

/-- The class of the worlds that have all that w0 has. -/
def Kp (w0 : World) (W : World) : Prop := Below w0.heap.size w0 W
theorem Kp.refl (w : World) : Kp w w := Below.refl _ w
theorem Kp.next {w0 w w' : World} (h : Kp w0 w) (hb : Below w.heap.size w w') : Kp w0 w' := below_next h hb
theorem Kp.drew (w : World) : Kp w w.drew := (Below.refl _ w).drew
theorem Kp.cell {w0 W : World} (h : Kp w0 W) {b o : Nat} (hb : b < w0.heap.size) : W.cell? ⟨b, o, none⟩ = w0.cell? ⟨b, o, none⟩ := Below.cell (p := ⟨b, o, none⟩) h hb
theorem kp_ne (w0 : World) : Nonempty (Cls (Kp w0)) := ⟨⟨w0, Kp.refl w0⟩⟩
/-- A fact on a cell, at each world of the class. -/
theorem kp_cell {w0 : World} {a : Addr} {v : Value} (h : w0.cell? a = some v) (x : Cls (Kp w0)) : x.w.cell? a = some v := (Below.cell x.h (World.block_lt_of_cell? w0 a h)).trans h
theorem kp_call {P : Program} {f : FuncId} {args : Array Value} {w0 : World} {v : Value} (x : Cls (Kp w0)) (h : Calls P f args x.w fun e w' => e = .returned v ∧ Below x.w.heap.size x.w w') :
    Calls P f args x.w fun e w' => e = .returned v ∧ ∃ y : Cls (Kp w0), w' = y.w := cls_call x h fun _ hb => x.h.next hb
theorem wp_region_kp {P : Program} {id : Nat} {Q : Exit → Act → World → Prop} {a : Act} {w : World} {l : List Oper} (hm : P.follows .mixedOrders = true) (hB : Region.lexB .any l.toArray = true)
    (h : wpQuiet P l.toArray (fun w' => ∃ x : Cls (Kp w), w' = x.w) (fun a' => ∀ w', (∃ x : Cls (Kp w), w' = x.w) → Q .normal a' w') l a) : (Code.region id l.toArray true).wp P Q a w :=
  wp_region_cls (Kp w) hm hB (Kp.drew w) h
theorem wp_region_kp_tail {P : Program} {id : Nat} {Q : Exit → Act → World → Prop} {a : Act} {w : World} {l : List Oper} (n : Nat) (hm : P.follows .mixedOrders = true) (hB : Region.lexTailB .any l.toArray n = true)
    (h : wpQuiet P l.toArray (fun w' => ∃ x : Cls (Kp w), w' = x.w) (fun a' => ∀ w', (∃ x : Cls (Kp w), w' = x.w) → wpList P l.toArray Q (l.drop n) a' w') (l.take n) a) : (Code.region id l.toArray true).wp P Q a w :=
  wp_region_quiet_tail (C := fun w' => ∃ x : Cls (Kp w), w' = x.w) n hm hB ⟨⟨w.drew, Kp.drew w⟩, rfl⟩ h

end Go.Proofs.Ytpkhfdcokcchdaa

/-
  Runs of blocks as a list: rising and apart; what they cover; what Use, Give and Take make of them.
-/
namespace Go.Proofs.Ytpkhfdcokcchdaa

/-- Runs from lo on, below N, none touching the next. -/
def RunsF (lo N : Nat) : List (Nat × Nat) → Prop
  | [] => True
  | e :: r => lo ≤ e.1 ∧ 1 ≤ e.2 ∧ e.1 + e.2 ≤ N ∧ RunsF (e.1 + e.2 + 1) N r
def covB (l : List (Nat × Nat)) (b : Nat) : Bool := l.any fun e => decide (e.1 ≤ b) && decide (b < e.1 + e.2)
def sumL : List (Nat × Nat) → Nat
  | [] => 0
  | e :: r => e.2 + sumL r
def nextLo : Nat → List (Nat × Nat) → Nat
  | lo, [] => lo
  | _, e :: r => nextLo (e.1 + e.2 + 1) r
/-- The first run that ends behind a block. -/
def fromI : List (Nat × Nat) → Int → Nat
  | [], _ => 0
  | e :: r, b => if b < ((e.1 + e.2 : Nat) : Int) then 0 else fromI r b + 1

theorem RunsF.mono {lo lo' N : Nat} {l : List (Nat × Nat)} (h : RunsF lo N l) (hl : lo' ≤ lo) : RunsF lo' N l := by
  cases l with
  | nil => trivial
  | cons e r => exact ⟨by have := h.1; omega, h.2⟩
theorem RunsF_append {lo N : Nat} {A B : List (Nat × Nat)} : RunsF lo N (A ++ B) ↔ RunsF lo N A ∧ RunsF (nextLo lo A) N B := by
  induction A generalizing lo with
  | nil => simp [RunsF, nextLo]
  | cons e r ih => simp only [List.cons_append, RunsF, nextLo, ih, and_assoc]
theorem nextLo_append (lo : Nat) (A : List (Nat × Nat)) (e : Nat × Nat) : nextLo lo (A ++ [e]) = e.1 + e.2 + 1 := by
  induction A generalizing lo with
  | nil => rfl
  | cons x r ih => simp only [List.cons_append, nextLo, ih]
theorem covB_nil (b : Nat) : covB [] b = false := rfl
theorem covB_cons (e : Nat × Nat) (r : List (Nat × Nat)) (b : Nat) : covB (e :: r) b = ((decide (e.1 ≤ b) && decide (b < e.1 + e.2)) || covB r b) := rfl
theorem covB_append (A B : List (Nat × Nat)) (b : Nat) : covB (A ++ B) b = (covB A b || covB B b) := by simp [covB]
theorem sumL_append (A B : List (Nat × Nat)) : sumL (A ++ B) = sumL A + sumL B := by
  induction A with
  | nil => simp [sumL]
  | cons e r ih => simp only [List.cons_append, sumL, ih]; omega
theorem covB_lo {lo N : Nat} {l : List (Nat × Nat)} (h : RunsF lo N l) {b : Nat} (hb : covB l b = true) : lo ≤ b ∧ b < N := by
  induction l generalizing lo with
  | nil => cases hb
  | cons e r ih =>
    obtain ⟨h1, h2, h3, h4⟩ := h
    rw [covB_cons, Bool.or_eq_true, Bool.and_eq_true, decide_eq_true_eq, decide_eq_true_eq] at hb
    rcases hb with hb | hb
    · omega
    · have := ih h4 hb; omega
theorem covB_false {lo N : Nat} {l : List (Nat × Nat)} (h : RunsF lo N l) {b : Nat} (hb : b < lo) : covB l b = false := by
  cases q : covB l b with
  | false => rfl
  | true => have := covB_lo h q; omega
theorem covB_out {lo N : Nat} {l : List (Nat × Nat)} (h : RunsF lo N l) {b : Nat} (hb : N ≤ b) : covB l b = false := by
  cases q : covB l b with
  | false => rfl
  | true => have := covB_lo h q; omega
/-- What is covered tells the runs. -/
theorem runs_uniq {lo N : Nat} {l l' : List (Nat × Nat)} (h : RunsF lo N l) (h' : RunsF lo N l') (hc : ∀ b, covB l b = covB l' b) : l = l' := by
  induction l generalizing lo l' with
  | nil =>
    cases l' with
    | nil => rfl
    | cons e r =>
      have := hc e.1
      rw [covB_nil, covB_cons] at this
      have h2 := h'.2.1
      simp at this
      omega
  | cons e r ih =>
    cases l' with
    | nil =>
      have := hc e.1
      rw [covB_nil, covB_cons] at this
      have h2 := h.2.1
      simp at this
      omega
    | cons e' r' =>
      obtain ⟨h1, h2, h3, h4⟩ := h
      obtain ⟨h1', h2', h3', h4'⟩ := h'
      have lo1 : RunsF e.1 N (e :: r) := ⟨Nat.le_refl _, h2, h3, h4⟩
      have lo2 : RunsF e'.1 N (e' :: r') := ⟨Nat.le_refl _, h2', h3', h4'⟩
      have c1 : covB (e :: r) e.1 = true := by rw [covB_cons]; simp; omega
      have c2 : covB (e' :: r') e'.1 = true := by rw [covB_cons]; simp; omega
      have g1 := (covB_lo lo2 (by rw [← hc]; exact c1)).1
      have g2 := (covB_lo lo1 (by rw [hc]; exact c2)).1
      have ea : e.1 = e'.1 := by omega
      have en : e.2 = e'.2 := by
        rcases Nat.lt_trichotomy e.2 e'.2 with q | q | q
        · have c3 : covB (e' :: r') (e.1 + e.2) = true := by rw [covB_cons]; simp; omega
          rw [← hc, covB_cons, covB_false h4 (by omega)] at c3
          simp at c3
        · exact q
        · have c3 : covB (e :: r) (e.1 + e'.2) = true := by rw [covB_cons]; simp; omega
          rw [hc, covB_cons, covB_false h4' (by omega)] at c3
          simp at c3
          omega
      have ee : e = e' := Prod.ext ea en
      subst ee
      congr 1
      refine ih h4 h4' fun b => ?_
      by_cases hb : b < e.1 + e.2 + 1
      · rw [covB_false h4 hb, covB_false h4' hb]
      · have := hc b
        rw [covB_cons, covB_cons, decide_eq_false (p := b < e.1 + e.2) (by omega)] at this
        simpa using this

/-! ### Places -/
theorem fromI_le (l : List (Nat × Nat)) (b : Int) : fromI l b ≤ l.length := by
  induction l with
  | nil => simp [fromI]
  | cons e r ih => unfold fromI; split <;> simp <;> omega
/-- Where a search ends. -/
theorem fromI_is {l : List (Nat × Nat)} {b : Int} {i : Nat} (hi : i ≤ l.length) (h1 : ∀ j e, j < i → l[j]? = some e → ((e.1 + e.2 : Nat) : Int) ≤ b) (h2 : ∀ e, l[i]? = some e → b < ((e.1 + e.2 : Nat) : Int)) : i = fromI l b := by
  induction l generalizing i with
  | nil => simp at hi; simp [fromI, hi]
  | cons e r ih =>
    unfold fromI
    cases i with
    | zero =>
      have := h2 e rfl
      rw [if_pos this]
    | succ i =>
      have := h1 0 e (by omega) rfl
      rw [if_neg (by omega), ← ih (i := i) (by simpa using hi) (fun j e' hj hl => h1 (j + 1) e' (by omega) (by simpa using hl)) (fun e' hl => h2 e' (by simpa using hl))]
theorem fromI_before {l : List (Nat × Nat)} {b : Int} {j : Nat} {e : Nat × Nat} (hj : j < fromI l b) (hl : l[j]? = some e) : ((e.1 + e.2 : Nat) : Int) ≤ b := by
  induction l generalizing j with
  | nil => cases hl
  | cons x r ih =>
    unfold fromI at hj
    split at hj
    · omega
    · rename_i hx
      cases j with
      | zero => simp at hl; subst hl; omega
      | succ j => exact ih (j := j) (by omega) (by simpa using hl)
theorem fromI_at {l : List (Nat × Nat)} {b : Int} {e : Nat × Nat} (hl : l[fromI l b]? = some e) : b < ((e.1 + e.2 : Nat) : Int) := by
  induction l with
  | nil => cases hl
  | cons x r ih =>
    unfold fromI at hl
    split at hl
    · rename_i hx; simp at hl; subst hl; exact hx
    · exact ih (by simpa using hl)
/-- Ends rise. -/
theorem ends_lt {lo N : Nat} {l : List (Nat × Nat)} (h : RunsF lo N l) {i j : Nat} {x y : Nat × Nat} (hij : i < j) (hx : l[i]? = some x) (hy : l[j]? = some y) : x.1 + x.2 < y.1 := by
  induction l generalizing lo i j with
  | nil => cases hx
  | cons e r ih =>
    obtain ⟨h1, h2, h3, h4⟩ := h
    cases j with
    | zero => omega
    | succ j =>
      cases i with
      | zero =>
        simp at hx hy
        subst hx
        have : covB r y.1 = true := by
          have hm := List.mem_of_getElem? hy
          have hl : 1 ≤ y.2 := by
            clear ih
            revert h4 hm
            generalize e.1 + e.2 + 1 = q
            intro h4 hm
            clear hy
            induction r generalizing q with
            | nil => cases hm
            | cons z r ih =>
              rcases List.mem_cons.1 hm with e1 | e1
              · subst e1; exact h4.2.1
              · exact ih _ h4.2.2.2 e1
          rw [covB, List.any_eq_true]
          exact ⟨y, hm, by simp; omega⟩
        have := covB_lo h4 this
        omega
      | succ i => exact ih (i := i) (j := j) h4 (by omega) (by simpa using hx) (by simpa using hy)
theorem runs_mem {lo N : Nat} {l : List (Nat × Nat)} (h : RunsF lo N l) {e : Nat × Nat} (he : e ∈ l) : lo ≤ e.1 ∧ 1 ≤ e.2 ∧ e.1 + e.2 ≤ N := by
  induction l generalizing lo with
  | nil => cases he
  | cons x r ih =>
    rcases List.mem_cons.1 he with q | q
    · subst q; exact ⟨h.1, h.2.1, h.2.2.1⟩
    · have := ih h.2.2.2 q
      have := h.1
      omega
theorem fromI_zero {e : Nat × Nat} {b : Int} (r : List (Nat × Nat)) (h : b < ((e.1 + e.2 : Nat) : Int)) : fromI (e :: r) b = 0 := by unfold fromI; rw [if_pos h]
theorem fromI_succ {e : Nat × Nat} {b : Int} (r : List (Nat × Nat)) (h : ¬ b < ((e.1 + e.2 : Nat) : Int)) : fromI (e :: r) b = fromI r b + 1 := by
  conv => lhs; unfold fromI
  rw [if_neg h]
/-- A block is covered just if the run that a search finds begins ahead of it. -/
theorem has_from {lo N : Nat} {l : List (Nat × Nat)} (h : RunsF lo N l) (b : Nat) : covB l b = match l[fromI l (b : Int)]? with | some e => decide (e.1 ≤ b) | none => false := by
  induction l generalizing lo with
  | nil => rfl
  | cons e r ih =>
    obtain ⟨h1, h2, h3, h4⟩ := h
    rw [covB_cons]
    by_cases hb : (b : Int) < ((e.1 + e.2 : Nat) : Int)
    · rw [fromI_zero r hb]
      simp only [List.getElem?_cons_zero]
      by_cases q : e.1 ≤ b
      · simp [q]; left; omega
      · rw [covB_false h4 (by omega)]; simp [q]
    · rw [fromI_succ r hb, ih h4]
      simp only [List.getElem?_cons_succ]
      rw [decide_eq_false (p := b < e.1 + e.2) (by omega)]
      simp

/-! ### Use -/
def inR (at_ n b : Nat) : Bool := decide (at_ ≤ b) && decide (b < at_ + n)
/-- What is left of a run. -/
def pieces (e : Nat × Nat) (at_ n : Nat) : List (Nat × Nat) := (if e.1 < at_ then [(e.1, at_ - e.1)] else []) ++ (if at_ + n < e.1 + e.2 then [(at_ + n, e.1 + e.2 - (at_ + n))] else [])
def useL : List (Nat × Nat) → Nat → Nat → Option (List (Nat × Nat))
  | [], _, _ => none
  | e :: r, a, n => if a < e.1 + e.2 then (if e.1 ≤ a ∧ a + n ≤ e.1 + e.2 then some (pieces e a n ++ r) else none) else (useL r a n).map (e :: ·)
theorem useL_from (l : List (Nat × Nat)) (a n : Nat) :
    useL l a n = match l[fromI l (a : Int)]? with
      | none => none
      | some e => if e.1 ≤ a ∧ a + n ≤ e.1 + e.2 then some (l.take (fromI l (a : Int)) ++ pieces e a n ++ l.drop (fromI l (a : Int) + 1)) else none := by
  induction l with
  | nil => rfl
  | cons e r ih =>
    unfold useL
    by_cases h : a < e.1 + e.2
    · rw [if_pos h, fromI_zero r (by omega)]
      simp
    · rw [if_neg h, fromI_succ r (by omega), ih]
      simp only [List.getElem?_cons_succ]
      cases q : r[fromI r (a : Int)]? with
      | none => rfl
      | some x =>
        simp only
        split
        · simp
        · rfl
theorem pieces_runs {lo N : Nat} {e : Nat × Nat} {r : List (Nat × Nat)} {a n : Nat} (h : RunsF lo N (e :: r)) (hn : 1 ≤ n) (h1 : e.1 ≤ a) (h2 : a + n ≤ e.1 + e.2) : RunsF lo N (pieces e a n ++ r) := by
  obtain ⟨q1, q2, q3, q4⟩ := h
  unfold pieces
  by_cases c1 : e.1 < a <;> by_cases c2 : a + n < e.1 + e.2
  · rw [if_pos c1, if_pos c2]
    refine ⟨q1, by simp only; omega, by simp only; omega, by simp only; omega, by simp only; omega, by simp only; omega, q4.mono (by simp only; omega)⟩
  · rw [if_pos c1, if_neg c2]
    exact ⟨q1, by simp only; omega, by simp only; omega, q4.mono (by simp only; omega)⟩
  · rw [if_neg c1, if_pos c2]
    exact ⟨by simp only; omega, by simp only; omega, by simp only; omega, q4.mono (by simp only; omega)⟩
  · rw [if_neg c1, if_neg c2]
    exact q4.mono (by omega)
theorem pieces_cov {e : Nat × Nat} {a n : Nat} (hn : 1 ≤ n) (h1 : e.1 ≤ a) (h2 : a + n ≤ e.1 + e.2) (b : Nat) : covB (pieces e a n) b = (inR e.1 e.2 b && !inR a n b) := by
  rw [Bool.eq_iff_iff]
  unfold pieces inR covB
  by_cases c1 : e.1 < a <;> by_cases c2 : a + n < e.1 + e.2 <;> simp [c1, c2] <;> omega
theorem pieces_sum {e : Nat × Nat} {a n : Nat} (h1 : e.1 ≤ a) (h2 : a + n ≤ e.1 + e.2) : sumL (pieces e a n) + n = e.2 := by
  unfold pieces
  by_cases c1 : e.1 < a <;> by_cases c2 : a + n < e.1 + e.2 <;> simp [c1, c2, sumL] <;> omega
theorem useL_some {lo N : Nat} {l l' : List (Nat × Nat)} {a n : Nat} (h : RunsF lo N l) (hn : 1 ≤ n) (hu : useL l a n = some l') :
    RunsF lo N l' ∧ (∀ b, covB l' b = (covB l b && !inR a n b)) ∧ (∀ b, inR a n b = true → covB l b = true) ∧ sumL l' + n = sumL l := by
  induction l generalizing lo l' with
  | nil => cases hu
  | cons e r ih =>
    unfold useL at hu
    by_cases c : a < e.1 + e.2
    · rw [if_pos c] at hu
      by_cases d : e.1 ≤ a ∧ a + n ≤ e.1 + e.2
      · rw [if_pos d] at hu
        injection hu with hu
        subst hu
        refine ⟨pieces_runs h hn d.1 d.2, fun b => ?_, fun b hb => ?_, ?_⟩
        · rw [covB_append, pieces_cov hn d.1 d.2, covB_cons]
          have hf := h.2.2.2
          cases q : covB r b with
          | false => simp [inR]
          | true =>
            have := covB_lo hf q
            have : inR a n b = false := by simp [inR]; omega
            simp [this]
        · rw [covB_cons]
          simp [inR] at hb ⊢
          left; omega
        · rw [sumL_append]
          have := pieces_sum d.1 d.2
          simp only [sumL]
          omega
      · rw [if_neg d] at hu; cases hu
    · rw [if_neg c] at hu
      obtain ⟨r', hr, rfl⟩ := Option.map_eq_some_iff.1 hu
      obtain ⟨i1, i2, i3, i4⟩ := ih h.2.2.2 hr
      refine ⟨⟨h.1, h.2.1, h.2.2.1, i1⟩, fun b => ?_, fun b hb => ?_, ?_⟩
      · rw [covB_cons, covB_cons, i2]
        cases q : inR a n b with
        | false => simp
        | true =>
          have : decide (b < e.1 + e.2) = false := by simp [inR] at q ⊢; omega
          simp [this]
      · rw [covB_cons, i3 b hb]; simp
      · simp only [sumL]; omega
theorem useL_none {lo N : Nat} {l : List (Nat × Nat)} {a n : Nat} (h : RunsF lo N l) (hn : 1 ≤ n) (hu : useL l a n = none) : ∃ b, inR a n b = true ∧ covB l b = false := by
  induction l generalizing lo with
  | nil => exact ⟨a, by simp [inR]; omega, rfl⟩
  | cons e r ih =>
    unfold useL at hu
    by_cases c : a < e.1 + e.2
    · rw [if_pos c] at hu
      by_cases d : e.1 ≤ a ∧ a + n ≤ e.1 + e.2
      · rw [if_pos d] at hu; cases hu
      · by_cases d1 : e.1 ≤ a
        · refine ⟨e.1 + e.2, by simp [inR]; omega, ?_⟩
          rw [covB_cons, covB_false h.2.2.2 (by omega)]
          simp
        · refine ⟨a, by simp [inR]; omega, ?_⟩
          rw [covB_cons, covB_false h.2.2.2 (by omega)]
          simp; omega
    · rw [if_neg c] at hu
      obtain ⟨b, hb, hf⟩ := ih h.2.2.2 (by simpa using hu)
      refine ⟨b, hb, ?_⟩
      rw [covB_cons, hf]
      simp [inR] at hb ⊢
      omega

/-! ### Give -/
/-- What stands ahead of the place: its last run if it touches; what stands behind: its first one if it touches. -/
def mergeA (A : List (Nat × Nat)) (a : Nat) : List (Nat × Nat) × Nat := match A.getLast? with
  | some p => if p.1 + p.2 = a then (A.dropLast, p.1) else (A, a)
  | none => (A, a)
def mergeB (B : List (Nat × Nat)) (z : Nat) : List (Nat × Nat) × Nat := match B with
  | q :: B' => if q.1 = z then (B', z + q.2) else (B, z)
  | [] => ([], z)
def giveL (l : List (Nat × Nat)) (a n : Nat) : Option (List (Nat × Nat)) :=
  let i := fromI l (a : Int)
  match l[i]? with
  | some e => if e.1 < a + n then none else some ((mergeA (l.take i) a).1 ++ ((mergeA (l.take i) a).2, (mergeB (l.drop i) (a + n)).2 - (mergeA (l.take i) a).2) :: (mergeB (l.drop i) (a + n)).1)
  | none => some ((mergeA (l.take i) a).1 ++ [((mergeA (l.take i) a).2, a + n - (mergeA (l.take i) a).2)])
theorem mergeA_runs {N : Nat} {A : List (Nat × Nat)} {a : Nat} (h : RunsF 0 N A) (hA : ∀ e ∈ A, e.1 + e.2 ≤ a) :
    RunsF 0 N (mergeA A a).1 ∧ nextLo 0 (mergeA A a).1 ≤ (mergeA A a).2 ∧ (mergeA A a).2 ≤ a ∧ (∀ b, (covB (mergeA A a).1 b || inR (mergeA A a).2 (a - (mergeA A a).2) b) = covB A b) ∧ sumL (mergeA A a).1 + (a - (mergeA A a).2) = sumL A := by
  unfold mergeA
  cases q : A.getLast? with
  | none =>
    rw [List.getLast?_eq_none_iff] at q
    subst q
    refine ⟨trivial, by simp [nextLo], Nat.le_refl _, fun b => by simp [covB, inR], by simp [sumL]⟩
  | some p =>
    obtain ⟨A', rfl⟩ := List.getLast?_eq_some_iff.1 q
    have hp := hA p (by simp)
    obtain ⟨g1, g2, g3, g4, _⟩ := RunsF_append.1 h
    simp only
    split
    · rename_i e
      simp only [List.dropLast_concat]
      refine ⟨g1, g2, by omega, fun b => ?_, ?_⟩
      · rw [covB_append, covB_cons, covB_nil]
        have : a - p.1 = p.2 := by omega
        rw [this]
        simp [inR]
      · rw [sumL_append]; simp only [sumL]; omega
    · rename_i e
      refine ⟨h, by rw [nextLo_append]; omega, Nat.le_refl _, fun b => ?_, by simp⟩
      simp [inR]
      intro h1 h2
      omega
theorem mergeB_runs {N lo : Nat} {B : List (Nat × Nat)} {z : Nat} (h : RunsF lo N B) (hB : ∀ e ∈ B.head?, z ≤ e.1) (hz : z ≤ N) :
    RunsF ((mergeB B z).2 + 1) N (mergeB B z).1 ∧ z ≤ (mergeB B z).2 ∧ (mergeB B z).2 ≤ N ∧ (∀ b, (covB (mergeB B z).1 b || inR z ((mergeB B z).2 - z) b) = covB B b) ∧ sumL (mergeB B z).1 + ((mergeB B z).2 - z) = sumL B := by
  cases B with
  | nil => exact ⟨trivial, Nat.le_refl _, hz, fun b => by simp [mergeB, covB, inR], by simp [mergeB, sumL]⟩
  | cons q B' =>
    have hq := hB q rfl
    obtain ⟨h1, h2, h3, h4⟩ := h
    unfold mergeB
    simp only
    split
    · rename_i e
      simp only
      refine ⟨h4.mono (by omega), by omega, by omega, fun b => ?_, ?_⟩
      · rw [covB_cons, ← e]
        have : q.1 + q.2 - q.1 = q.2 := by omega
        rw [this]
        simp [inR, Bool.or_comm]
      · simp only [sumL]; omega
    · rename_i e
      refine ⟨⟨by omega, h2, h3, h4⟩, Nat.le_refl _, hz, fun b => by simp [inR]; omega, by simp⟩
theorem inR_three (a m n b x z : Nat) (h1 : x ≤ a) (h2 : a + n ≤ z) (hm : m = z - x) : inR x m b = (inR x (a - x) b || inR a n b || inR (a + n) (z - (a + n)) b) := by
  subst hm
  rw [Bool.eq_iff_iff]
  simp [inR]
  omega
theorem giveL_some {N : Nat} {l l' : List (Nat × Nat)} {a n : Nat} (h : RunsF 0 N l) (hn : 1 ≤ n) (hN : a + n ≤ N) (hu : giveL l a n = some l') :
    RunsF 0 N l' ∧ (∀ b, covB l' b = (covB l b || inR a n b)) ∧ (∀ b, inR a n b = true → covB l b = false) ∧ sumL l' = sumL l + n := by
  have hi := fromI_le l (a : Int)
  have hb := @fromI_before l (a : Int)
  have ha := @fromI_at l (a : Int)
  unfold giveL at hu
  simp only at hu
  generalize fromI l (a : Int) = i at *
  have hl : l.take i ++ l.drop i = l := List.take_append_drop i l
  have hr : RunsF 0 N (l.take i) ∧ RunsF (nextLo 0 (l.take i)) N (l.drop i) := by rw [← RunsF_append, hl]; exact h
  have hA : ∀ e ∈ l.take i, e.1 + e.2 ≤ a := by
    intro e he
    obtain ⟨j, hj⟩ := List.getElem?_of_mem he
    have hj' : j < i := by
      have := (List.getElem?_eq_some_iff.1 hj).1
      simp at this; omega
    rw [List.getElem?_take_of_lt hj'] at hj
    have := hb hj' hj
    omega
  obtain ⟨a1, a2, a3, a4, a5⟩ := mergeA_runs hr.1 hA
  have hd0 : ∀ e, (l.drop i).head? = some e → l[i]? = some e := fun e he => by
    rw [List.head?_drop] at he; exact he
  have main : (∀ e, l[i]? = some e → a + n ≤ e.1) → l' = (mergeA (l.take i) a).1 ++ ((mergeA (l.take i) a).2, (mergeB (l.drop i) (a + n)).2 - (mergeA (l.take i) a).2) :: (mergeB (l.drop i) (a + n)).1 →
      RunsF 0 N l' ∧ (∀ b, covB l' b = (covB l b || inR a n b)) ∧ (∀ b, inR a n b = true → covB l b = false) ∧ sumL l' = sumL l + n := by
    intro hq e
    obtain ⟨b1, b2, b3, b4, b5⟩ := mergeB_runs (z := a + n) hr.2 (fun e he => hq e (hd0 e he)) hN
    generalize mergeA (l.take i) a = MA at *
    generalize mergeB (l.drop i) (a + n) = MB at *
    subst e
    refine ⟨?_, fun b => ?_, fun b hbn => ?_, ?_⟩
    · rw [RunsF_append]
      exact ⟨a1, a2, by simp only; omega, by simp only; omega, b1.mono (by simp only; omega)⟩
    · have e1 : covB l b = (covB (l.take i) b || covB (l.drop i) b) := by rw [← covB_append, hl]
      rw [e1, ← a4 b, ← b4 b, covB_append, covB_cons]
      have := inR_three a (MB.2 - MA.2) n b MA.2 MB.2 a3 b2 rfl
      unfold inR at this ⊢
      simp only
      rw [this]
      generalize covB MA.1 b = p
      generalize covB MB.1 b = q
      generalize (decide (MA.2 ≤ b) && decide (b < MA.2 + (a - MA.2))) = r
      generalize (decide (a ≤ b) && decide (b < a + n)) = s
      generalize (decide (a + n ≤ b) && decide (b < a + n + (MB.2 - (a + n)))) = t
      cases p <;> cases q <;> cases r <;> cases s <;> cases t <;> rfl
    · have e1 : covB l b = (covB (l.take i) b || covB (l.drop i) b) := by rw [← covB_append, hl]
      rw [e1]
      have hbn' : a ≤ b ∧ b < a + n := by simpa [inR] using hbn
      have p1 : covB (l.take i) b = false := by
        rw [covB, List.any_eq_false]
        intro e he
        have := hA e he
        simp; omega
      have p2 : covB (l.drop i) b = false := by
        cases hd : l.drop i with
        | nil => rfl
        | cons q B' =>
          have hq' := hq q (hd0 q (by rw [hd]; rfl))
          have r2 := hr.2
          rw [hd] at r2
          exact covB_false (lo := a + n) (N := N) (l := q :: B') ⟨hq', r2.2.1, r2.2.2.1, r2.2.2.2⟩ hbn'.2
      simp [p1, p2]
    · have e1 : sumL l = sumL (l.take i) + sumL (l.drop i) := by rw [← sumL_append, hl]
      rw [sumL_append]
      simp only [sumL]
      omega
  cases q : l[i]? with
  | some e =>
    rw [q] at hu
    simp only at hu
    by_cases c : e.1 < a + n
    · rw [if_pos c] at hu; cases hu
    · rw [if_neg c] at hu
      injection hu with hu
      exact main (fun e' he => by rw [q] at he; injection he with he; subst he; omega) hu.symm
  | none =>
    rw [q] at hu
    simp only at hu
    injection hu with hu
    have hlen : l.length ≤ i := List.getElem?_eq_none_iff.1 q
    have hd : l.drop i = [] := List.drop_eq_nil_of_le hlen
    refine main (fun e' he => by rw [q] at he; cases he) ?_
    rw [← hu, hd]
    rfl
theorem giveL_none {N : Nat} {l : List (Nat × Nat)} {a n : Nat} (h : RunsF 0 N l) (hn : 1 ≤ n) (hu : giveL l a n = none) : ∃ b, inR a n b = true ∧ covB l b = true := by
  have ha := @fromI_at l (a : Int)
  unfold giveL at hu
  simp only at hu
  cases q : l[fromI l (a : Int)]? with
  | none => rw [q] at hu; cases hu
  | some e =>
    rw [q] at hu
    simp only at hu
    have hm := runs_mem h (List.mem_of_getElem? q)
    have := ha q
    by_cases c : e.1 < a + n
    · refine ⟨max a e.1, by simp [inR]; omega, ?_⟩
      rw [covB, List.any_eq_true]
      exact ⟨e, List.mem_of_getElem? q, by simp; omega⟩
    · rw [if_neg c] at hu; cases hu

/-! ### Take -/
/-- The first run that has room. -/
def fitI : List (Nat × Nat) → Nat → Option Nat
  | [], _ => none
  | e :: r, n => if n ≤ e.2 then some 0 else (fitI r n).map (· + 1)
/-- The first runs, one behind the other: what stays, and what is taken. -/
def greedy : List (Nat × Nat) → Nat → List (Nat × Nat) × List (Nat × Nat)
  | [], _ => ([], [])
  | e :: r, n => if n ≤ e.2 then ((if n < e.2 then [(e.1 + n, e.2 - n)] else []) ++ r, [(e.1, n)]) else ((greedy r (n - e.2)).1, e :: (greedy r (n - e.2)).2)
def takeL (l : List (Nat × Nat)) (n : Nat) : List (Nat × Nat) × List (Nat × Nat) :=
  match fitI l n with
  | some i => ((useL l (l.getD i (0, 0)).1 n).getD [], [((l.getD i (0, 0)).1, n)])
  | none => greedy l n
/-- What is taken, and what stays. -/
structure TakeOk (N : Nat) (l : List (Nat × Nat)) (n : Nat) (l' t : List (Nat × Nat)) : Prop where
  runs : RunsF 0 N l'
  taken : RunsF 0 N t
  cov : ∀ b, covB l b = (covB l' b || covB t b)
  apart : ∀ b, covB t b = true → covB l' b = false
  sum : sumL t = n
  left : sumL l' + n = sumL l
theorem fitI_some {l : List (Nat × Nat)} {n i : Nat} (h : fitI l n = some i) : ∃ e, l[i]? = some e ∧ n ≤ e.2 ∧ ∀ j x, j < i → l[j]? = some x → x.2 < n := by
  induction l generalizing i with
  | nil => cases h
  | cons e r ih =>
    unfold fitI at h
    split at h
    · injection h with h; subst h
      exact ⟨e, rfl, by assumption, fun j x hj => by omega⟩
    · rename_i hn
      obtain ⟨k, hk, rfl⟩ := Option.map_eq_some_iff.1 h
      obtain ⟨x, h1, h2, h3⟩ := ih hk
      refine ⟨x, by simpa using h1, h2, fun j y hj hy => ?_⟩
      cases j with
      | zero => simp at hy; subst hy; omega
      | succ j => exact h3 j y (by omega) (by simpa using hy)
theorem fitI_none {l : List (Nat × Nat)} {n : Nat} (h : fitI l n = none) : ∀ e ∈ l, e.2 < n := by
  induction l with
  | nil => intro e he; cases he
  | cons x r ih =>
    unfold fitI at h
    split at h
    · cases h
    · intro e he
      rcases List.mem_cons.1 he with q | q
      · subst q; omega
      · exact ih (by simpa using h) e q
theorem greedy_ok {lo N : Nat} {l : List (Nat × Nat)} {n : Nat} (h : RunsF lo N l) (hn : 1 ≤ n) (hs : n ≤ sumL l) :
    RunsF lo N (greedy l n).1 ∧ RunsF lo N (greedy l n).2 ∧ (∀ b, covB l b = (covB (greedy l n).1 b || covB (greedy l n).2 b)) ∧ (∀ b, covB (greedy l n).2 b = true → covB (greedy l n).1 b = false) ∧ sumL (greedy l n).2 = n ∧ sumL (greedy l n).1 + n = sumL l := by
  induction l generalizing lo n with
  | nil => simp [sumL] at hs; omega
  | cons e r ih =>
    obtain ⟨h1, h2, h3, h4⟩ := h
    unfold greedy
    by_cases c : n ≤ e.2
    · rw [if_pos c]
      by_cases d : n < e.2
      · rw [if_pos d]
        refine ⟨⟨by simp only; omega, by simp only; omega, by simp only; omega, h4.mono (by simp only; omega)⟩, ⟨h1, hn, by simp only; omega, trivial⟩, fun b => ?_, fun b hb => ?_, by simp [sumL], by simp [sumL]; omega⟩
        · simp only [covB_append, covB_cons, covB_nil]
          cases covB r b <;> (rw [Bool.eq_iff_iff]; simp; try omega)
        · simp only [covB_cons, covB_nil] at hb
          simp at hb
          simp only [covB_append, covB_cons, covB_nil]
          rw [covB_false h4 (by omega)]
          simp
          omega
      · rw [if_neg d]
        have : e.2 = n := by omega
        refine ⟨h4.mono (by omega), ⟨h1, hn, by simp only; omega, trivial⟩, fun b => ?_, fun b hb => ?_, by simp [sumL], by simp [sumL]; omega⟩
        · simp only [List.nil_append, covB_cons, covB_nil, this, Bool.or_false]
          rw [Bool.or_comm]
        · simp only [covB_cons, covB_nil] at hb
          simp at hb
          rw [List.nil_append]
          exact covB_false h4 (by omega)
    · rw [if_neg c]
      simp only [sumL] at hs
      obtain ⟨i1, i2, i3, i4, i5, i6⟩ := ih (n := n - e.2) h4 (by omega) (by omega)
      refine ⟨i1.mono (by omega), ⟨h1, h2, h3, i2⟩, fun b => ?_, fun b hb => ?_, by simp only [sumL]; omega, by simp only [sumL]; omega⟩
      · rw [covB_cons, covB_cons, i3 b]
        cases covB (greedy r (n - e.2)).1 b <;> simp
      · rw [covB_cons, Bool.or_eq_true] at hb
        rcases hb with hb | hb
        · exact covB_false i1 (by simp at hb; omega)
        · exact i4 b hb
theorem takeL_ok {N : Nat} {l : List (Nat × Nat)} {n : Nat} (h : RunsF 0 N l) (hn : 1 ≤ n) (hs : n ≤ sumL l) : TakeOk N l n (takeL l n).1 (takeL l n).2 := by
  unfold takeL
  cases q : fitI l n with
  | none =>
    simp only
    obtain ⟨i1, i2, i3, i4, i5, i6⟩ := greedy_ok h hn hs
    exact ⟨i1, i2, i3, i4, i5, i6⟩
  | some i =>
    simp only
    obtain ⟨e, he, hle, _⟩ := fitI_some q
    have hg : l.getD i (0, 0) = e := by simp [List.getD, he]
    rw [hg]
    have hm := runs_mem h (List.mem_of_getElem? he)
    cases u : useL l e.1 n with
    | none =>
      obtain ⟨b, hb, hf⟩ := useL_none h hn u
      have : covB l b = true := by
        rw [covB, List.any_eq_true]
        refine ⟨e, List.mem_of_getElem? he, ?_⟩
        simp [inR] at hb ⊢; omega
      rw [this] at hf; cases hf
    | some l' =>
      simp only [Option.getD_some]
      obtain ⟨u1, u2, u3, u4⟩ := useL_some h hn u
      have ct : ∀ b, covB [(e.1, n)] b = inR e.1 n b := fun b => by rw [covB_cons, covB_nil, Bool.or_false]; rfl
      refine ⟨u1, ⟨Nat.zero_le _, hn, by simp only; omega, trivial⟩, fun b => ?_, fun b hb => ?_, by simp [sumL], u4⟩
      · rw [ct, u2]
        cases q2 : inR e.1 n b with
        | false => simp
        | true => simp [u3 b q2]
      · rw [ct] at hb
        rw [u2, hb]; simp
theorem sumL_zero {lo N : Nat} {l : List (Nat × Nat)} (h : RunsF lo N l) (hs : sumL l = 0) : l = [] := by
  cases l with
  | nil => rfl
  | cons e r => have := h.2.1; simp [sumL] at hs; omega
theorem sumL_le {lo N : Nat} {l : List (Nat × Nat)} (h : RunsF lo N l) : sumL l + lo ≤ max N lo := by
  induction l generalizing lo with
  | nil => simp [sumL]; omega
  | cons e r ih =>
    obtain ⟨h1, h2, h3, h4⟩ := h
    have := ih h4
    simp only [sumL]; omega
theorem take_all {N : Nat} {l l' t : List (Nat × Nat)} (h : RunsF 0 N l) (ho : TakeOk N l (sumL l) l' t) : l' = [] ∧ t = l := by
  have h0 : l' = [] := sumL_zero ho.runs (by have := ho.left; omega)
  refine ⟨h0, runs_uniq ho.taken h fun b => ?_⟩
  rw [ho.cov b, h0, covB_nil, Bool.false_or]
theorem len_le {lo N : Nat} {l : List (Nat × Nat)} (h : RunsF lo N l) : l.length ≤ sumL l := by
  induction l generalizing lo with
  | nil => simp
  | cons e r ih =>
    have := ih h.2.2.2
    have := h.2.1
    simp only [sumL, List.length_cons]; omega

/-- What is taken, given back one by one. -/
theorem give_back {N : Nat} {l l' t cur : List (Nat × Nat)} {n k : Nat} {e : Nat × Nat} (ho : TakeOk N l n l' t) (hr : RunsF 0 N cur) (hc : ∀ b, covB cur b = (covB l' b || covB (t.take k) b)) (he : t[k]? = some e) :
    ∃ c', giveL cur e.1 e.2 = some c' ∧ RunsF 0 N c' ∧ (∀ b, covB c' b = (covB l' b || covB (t.take (k + 1)) b)) := by
  have hm := runs_mem ho.taken (List.mem_of_getElem? he)
  cases q : giveL cur e.1 e.2 with
  | none =>
    obtain ⟨b, hb, hf⟩ := giveL_none hr hm.2.1 q
    have ht : covB t b = true := by
      rw [covB, List.any_eq_true]
      refine ⟨e, List.mem_of_getElem? he, ?_⟩
      simp [inR] at hb ⊢; omega
    rw [hc, ho.apart b ht, Bool.false_or, covB, List.any_eq_true] at hf
    obtain ⟨x, hx, hxb⟩ := hf
    obtain ⟨j, hj⟩ := List.getElem?_of_mem hx
    have hjk : j < k := by
      have := (List.getElem?_eq_some_iff.1 hj).1
      simp at this; omega
    rw [List.getElem?_take_of_lt hjk] at hj
    have := ends_lt ho.taken hjk hj he
    simp [inR] at hb hxb
    omega
  | some c' =>
    obtain ⟨g1, g2, g3, g4⟩ := giveL_some hr hm.2.1 hm.2.2 q
    refine ⟨c', rfl, g1, fun b => ?_⟩
    have hlt := (List.getElem?_eq_some_iff.1 he)
    rw [g2, hc, List.take_succ_eq_append_getElem hlt.1, covB_append, hlt.2, covB_cons, covB_nil, Bool.or_false, Bool.or_assoc]
    rfl
theorem given_back {N : Nat} {l l' t cur : List (Nat × Nat)} {n : Nat} (ho : TakeOk N l n l' t) (h : RunsF 0 N l) (hr : RunsF 0 N cur) (hc : ∀ b, covB cur b = (covB l' b || covB (t.take t.length) b)) : cur = l := by
  refine runs_uniq hr h fun b => ?_
  rw [hc, List.take_length, ho.cov b]

end Go.Proofs.Ytpkhfdcokcchdaa

/-
  The document's list of truths and its runs.
-/
namespace Go.Proofs.Ytpkhfdcokcchdaa

/-- One more at the end of the last run. -/
def bump (l : List (Nat × Nat)) : List (Nat × Nat) := match l.getLast? with
  | some p => l.dropLast ++ [(p.1, p.2 + 1)]
  | none => []
def extP (m : Nat → Bool) : Nat → List (Nat × Nat)
  | 0 => []
  | k + 1 => if m k = true then (if 0 < k ∧ m (k - 1) = true then bump (extP m k) else extP m k ++ [(k, 1)]) else extP m k
theorem RunsF.up {lo N M : Nat} {l : List (Nat × Nat)} (h : RunsF lo N l) (hM : N ≤ M) : RunsF lo M l := by
  induction l generalizing lo with
  | nil => trivial
  | cons e r ih => exact ⟨h.1, h.2.1, by have := h.2.2.1; omega, ih h.2.2.2⟩
theorem nextLo_le {lo N : Nat} {l : List (Nat × Nat)} (h : RunsF lo N l) (hl : lo ≤ N + 1) : nextLo lo l ≤ N + 1 := by
  induction l generalizing lo with
  | nil => exact hl
  | cons e r ih => exact ih h.2.2.2 (by have := h.2.2.1; omega)
/-- A run that ends at the very end is the last one. -/
theorem last_run {lo k : Nat} {l : List (Nat × Nat)} (h : RunsF lo k l) (hk : 0 < k) (hc : covB l (k - 1) = true) : ∃ A p, l = A ++ [p] ∧ p.1 + p.2 = k := by
  induction l generalizing lo with
  | nil => cases hc
  | cons e r ih =>
    obtain ⟨h1, h2, h3, h4⟩ := h
    rw [covB_cons, Bool.or_eq_true] at hc
    rcases hc with hc | hc
    · simp at hc
      have : e.1 + e.2 = k := by omega
      have hr : r = [] := by
        cases r with
        | nil => rfl
        | cons y s => have := h4.1; have := h4.2.1; have := h4.2.2.1; omega
      subst hr
      exact ⟨[], e, rfl, this⟩
    · obtain ⟨A, p, rfl, hp⟩ := ih h4 hc
      exact ⟨e :: A, p, rfl, hp⟩
theorem extP_ok (m : Nat → Bool) (k : Nat) : RunsF 0 k (extP m k) ∧ ∀ b, covB (extP m k) b = (decide (b < k) && m b) := by
  induction k with
  | zero => exact ⟨trivial, fun b => by simp [extP, covB]⟩
  | succ k ih =>
    obtain ⟨i1, i2⟩ := ih
    unfold extP
    by_cases hm : m k = true
    · rw [if_pos hm]
      by_cases hp : 0 < k ∧ m (k - 1) = true
      · rw [if_pos hp]
        obtain ⟨A, p, hl, hpe⟩ := last_run i1 hp.1 (by rw [i2]; simp [hp.2]; omega)
        rw [hl] at i1 i2 ⊢
        obtain ⟨r1, r2, r3, r4, _⟩ := RunsF_append.1 i1
        have hb : bump (A ++ [p]) = A ++ [(p.1, p.2 + 1)] := by unfold bump; simp
        rw [hb]
        refine ⟨RunsF_append.2 ⟨r1.up (by omega), r2, by simp only; omega, by simp only; omega, trivial⟩, fun b => ?_⟩
        have := i2 b
        rw [covB_append, covB_cons, covB_nil, Bool.or_false] at this ⊢
        by_cases e : b = k
        · subst e
          have q : (decide (p.1 ≤ b) && decide (b < p.1 + (p.2 + 1))) = true := by simp; omega
          simp only
          rw [q]; simp [hm]
        · have q1 : decide (b < p.1 + (p.2 + 1)) = decide (b < p.1 + p.2) := by
            rw [decide_eq_decide]; omega
          have q2 : decide (b < k + 1) = decide (b < k) := by rw [decide_eq_decide]; omega
          simp only
          rw [q1, q2]; exact this
      · rw [if_neg hp]
        refine ⟨RunsF_append.2 ⟨i1.up (by omega), ?_, by simp, by simp, trivial⟩, fun b => ?_⟩
        · have hc : k = 0 ∨ covB (extP m k) (k - 1) = false := by
            by_cases h0 : k = 0
            · exact .inl h0
            · right
              rw [i2]
              have : m (k - 1) = false := by
                cases q : m (k - 1) with
                | false => rfl
                | true => exact absurd ⟨by omega, q⟩ hp
              rw [this]; simp
          rcases hc with hc | hc
          · subst hc; simp [extP, nextLo]
          · -- all runs end ahead of k
            have key : ∀ (l : List (Nat × Nat)) lo, RunsF lo k l → lo ≤ k → covB l (k - 1) = false → nextLo lo l ≤ k := by
              intro l
              induction l with
              | nil => intro lo _ hl _; exact hl
              | cons e r ih2 =>
                intro lo h hl hcv
                rw [covB_cons, Bool.or_eq_false_iff] at hcv
                have h3 := h.2.2.1
                have h2 := h.2.1
                refine ih2 _ h.2.2.2 ?_ hcv.2
                have := hcv.1
                simp at this
                omega
            exact key _ 0 i1 (by omega) hc
        · rw [covB_append, covB_cons, covB_nil, Bool.or_false, i2]
          by_cases e : b = k
          · subst e; simp [hm]
          · have q2 : decide (b < k + 1) = decide (b < k) := by rw [decide_eq_decide]; omega
            rw [q2, Bool.eq_iff_iff]
            simp
            omega
    · rw [if_neg hm]
      refine ⟨i1.up (by omega), fun b => ?_⟩
      rw [i2]
      by_cases e : b = k
      · subst e; simp [hm]
      · have q2 : decide (b < k + 1) = decide (b < k) := by rw [decide_eq_decide]; omega
        rw [q2]
theorem extP_is {N : Nat} {l : List (Nat × Nat)} {m : Nat → Bool} (h : RunsF 0 N l) (hc : ∀ b, b < N → covB l b = m b) : l = extP m N := by
  obtain ⟨e1, e2⟩ := extP_ok m N
  refine runs_uniq h e1 fun b => ?_
  rw [e2]
  by_cases q : b < N
  · rw [hc b q]; simp [q]
  · rw [covB_out h (by omega)]; simp [q]
theorem extP_ne (m : Nat → Bool) (k : Nat) (hk : 0 < k) (h : m (k - 1) = true) : ∃ A p, extP m k = A ++ [p] := by
  obtain ⟨e1, e2⟩ := extP_ok m k
  obtain ⟨A, p, hl, _⟩ := last_run e1 hk (by rw [e2]; simp [h]; omega)
  exact ⟨A, p, hl⟩
theorem extP_len (m : Nat → Bool) (k : Nat) : (extP m k).length ≤ k := by
  obtain ⟨e1, _⟩ := extP_ok m k
  have a := len_le e1
  have b := sumL_le e1
  omega

end Go.Proofs.Ytpkhfdcokcchdaa

/-
  alloc: sets in memory; New, Size, Free, List, right, end, from, Has.
-/
namespace Go.Proofs.Ytpkhfdcokcchdaa
open Go.RowKit

def zl (l : List (Nat × Nat)) : List (Int × Int) := l.map fun e => ((e.1 : Int), (e.2 : Int))
theorem zl_len (l : List (Nat × Nat)) : (zl l).length = l.length := by simp [zl]
theorem zl_get (l : List (Nat × Nat)) (i : Nat) : (zl l)[i]? = l[i]?.map fun e => ((e.1 : Int), (e.2 : Int)) := by simp [zl]
theorem zl_append (a b : List (Nat × Nat)) : zl (a ++ b) = zl a ++ zl b := by simp [zl]
theorem zl_take (a : List (Nat × Nat)) (n : Nat) : zl (a.take n) = (zl a).take n := by simp [zl, List.map_take]
theorem zl_drop (a : List (Nat × Nat)) (n : Nat) : zl (a.drop n) = (zl a).drop n := by simp [zl, List.map_drop]
/-- The slice from ao on, of room cap, is a set's runs. -/
structure SetIs (w : World) (N : Nat) (l : List (Nat × Nat)) (ao : Option Addr) (cap : Nat) : Prop where
  runs : RunsF 0 N l
  hi : N ≤ 65536
  rd : Rd2 w ao (zl l)
  cap1 : l.length ≤ cap
  cap2 : cap ≤ maxLen
  none : ao = none → cap = 0
theorem SetIs.gr0 {w w' : World} {N : Nat} {l : List (Nat × Nat)} {ao : Option Addr} {cap : Nat} (h : SetIs w N l ao cap) (g : Gr [] w w') : SetIs w' N l ao cap := ⟨h.runs, h.hi, h.rd.gr0 g, h.cap1, h.cap2, h.none⟩
theorem SetIs.nil (w : World) (N : Nat) (h : N ≤ 65536) : SetIs w N [] Option.none 0 := ⟨trivial, h, Rd2.nil _ _, Nat.le_refl _, Nat.zero_le _, fun _ => rfl⟩
theorem SetIs.len {w : World} {N : Nat} {l : List (Nat × Nat)} {ao : Option Addr} {cap : Nat} (h : SetIs w N l ao cap) : l.length ≤ N := by
  have a := len_le h.runs
  have b := sumL_le h.runs
  omega
theorem SetIs.at {w : World} {N : Nat} {l : List (Nat × Nat)} {ao : Option Addr} {cap : Nat} (h : SetIs w N l ao cap) {i : Nat} {e : Nat × Nat} (hi : l[i]? = some e) :
    ∃ b o, ao = some ⟨b, o, Option.none⟩ ∧ b < w.heap.size ∧ w.cell? ⟨b, o + i * 2, Option.none⟩ = some (.int .i64 (e.1 : Int)) ∧ w.cell? ⟨b, o + i * 2 + 1, Option.none⟩ = some (.int .i64 (e.2 : Int)) := by
  have q : (zl l)[i]? = some ((e.1 : Int), (e.2 : Int)) := by rw [zl_get, hi]; rfl
  exact h.rd i _ q
theorem SetIs.mem {w : World} {N : Nat} {l : List (Nat × Nat)} {ao : Option Addr} {cap : Nat} (h : SetIs w N l ao cap) {i : Nat} {e : Nat × Nat} (hi : l[i]? = some e) : 1 ≤ e.2 ∧ e.1 + e.2 ≤ N := (runs_mem h.runs (List.mem_of_getElem? hi)).2
/-- A slice of pairs that a call made, as a set. -/
theorem setOf {w : World} {N : Nat} {l : List (Nat × Nat)} {ao : Option Addr} {cap : Nat} (hr : RunsF 0 N l) (hN : N ≤ 65536) (h : Sl2 w (.slice ao l.length cap) (zl l)) : SetIs w N l ao cap := by
  obtain ⟨ao', cap', e, h1, h2, h3, h4⟩ := h
  injection e with e1 e2 e3
  subst e1 e3
  rw [zl_len] at h2
  exact ⟨hr, hN, h1, h2, h3, h4⟩

theorem aend_any (a n : Int) (w : World) (h : IntKind.i64.wrap (a + n) = a + n) :
    Calls Try.prog 74 #[.agg #[.int .i64 a, .int .i64 n]] w fun e w' => e = .returned (.int .i64 (a + n)) ∧ Gr [] w w' := by
  have HG := Lib.hid ((Gr.refl [] w).alloc (Obj.cells #[.int .i64 a, .int .i64 n] 35))
  go_enter Try.func74, Try.ntmps74
  go_wp2
  go_ret
  exact ⟨rfl, HG.out⟩
theorem aend_bel (a n : Int) (w : World) (h : IntKind.i64.wrap (a + n) = a + n) :
    Calls Try.prog 74 #[.agg #[.int .i64 a, .int .i64 n]] w fun e w' => e = .returned (.int .i64 (a + n)) ∧ Below w.heap.size w w' :=
  (aend_any a n w h).mono fun _ _ q => ⟨q.1, q.2.below0⟩
theorem acmp_any (a n b : Int) (w : World) (h : IntKind.i64.wrap (a + n) = a + n) :
    Calls Try.prog 109 #[.agg #[.int .i64 a, .int .i64 n], .int .i64 b] w fun e w' => e = .returned (.int .i64 (if b < a + n then 1 else -1)) ∧ Gr [] w w' := by
  have HG := Lib.hid ((Gr.refl [] w).alloc (Obj.cells #[.int .i64 a, .int .i64 n] 35))
  have HE := Lib.hid (fun W => aend_any a n W h)
  by_cases c : b < a + n
  · rw [if_pos c]
    go_enter Try.func109, Try.ntmps109
    go_wp2_with (refine (HE.out _).mono ?_; rintro e w' ⟨rfl, g⟩)
    go_ret
    exact ⟨rfl, HG.out.next0 g⟩
  · rw [if_neg c]
    go_enter Try.func109, Try.ntmps109
    go_wp2_with (refine (HE.out _).mono ?_; rintro e w' ⟨rfl, g⟩)
    go_ret
    exact ⟨rfl, HG.out.next0 g⟩

set_option maxHeartbeats 1000000 in
theorem anew_no (n : Int) (w : World) (h : n < 0 ∨ 65536 < n) :
    Calls Try.prog 15 #[.int .i64 n] w fun e w' => e = .returned (.tuple #[.agg #[.int .i64 0, .slice none 0 0], .int .i64 2]) ∧ Gr [] w w' := by
  have HG := Lib.hid ((Gr.refl [] w).alloc (Obj.cells #[.int .i64 0, .slice none 0 0] 25))
  rcases h with h | h
  · go_enter Try.func15, Try.ntmps15
    go_wp2_with fail
    exact bodyPost_ret (v := .tuple #[.agg #[.int .i64 0, .slice none 0 0], .int .i64 2]) (by simp [results, Try.results15, go_sem, *]) rfl ⟨rfl, HG.out⟩
  · have h' : ¬ n < 0 := by omega
    go_enter Try.func15, Try.ntmps15
    go_wp2_with fail
    exact bodyPost_ret (v := .tuple #[.agg #[.int .i64 0, .slice none 0 0], .int .i64 2]) (by simp [results, Try.results15, go_sem, *]) rfl ⟨rfl, HG.out⟩
set_option maxHeartbeats 1000000 in
theorem anew_yes (n : Nat) (w : World) (h : n ≤ 65536) :
    Calls Try.prog 15 #[.int .i64 n] w fun e w' => ∃ ao cap l, e = .returned (.tuple #[.agg #[.int .i64 n, .slice ao l.length cap], .int .i64 0]) ∧ SetIs w' n l ao cap ∧ (∀ b, covB l b = decide (b < n)) ∧ Gr [] w w' := by
  by_cases h0 : n = 0
  · subst h0
    go_enter Try.func15, Try.ntmps15
    go_wp2_with fail
    exact bodyPost_ret (v := .tuple #[.agg #[.int .i64 (0 : Nat), .slice none 0 0], .int .i64 0]) (by simp [results, Try.results15, go_sem, *]) rfl
      ⟨none, 0, [], rfl, SetIs.nil _ _ h, fun b => by simp [covB_nil], ((Gr.refl _ _).alloc _).alloc _⟩
  · have h1 : ((n : Int) > 0) := by omega
    have h2 : ¬ (65536 : Int) < n := by omega
    go_enter Try.func15, Try.ntmps15
    go_wp2_with fail
    refine bodyPost_ret (v := .tuple #[.agg #[.int .i64 n, .slice (some ⟨w.heap.size + 1 + 1, 0, none⟩) 1 1], .int .i64 0]) (by simp [results, Try.results15, go_sem, *]) rfl
      ⟨some ⟨w.heap.size + 1 + 1, 0, none⟩, 1, [(0, n)], rfl, ⟨⟨Nat.le_refl _, by simp only; omega, by simp, trivial⟩, h, ?_, Nat.le_refl _, by decide, fun e => by cases e⟩, fun b => by simp [covB], (((Gr.refl _ _).alloc _).alloc _).alloc _⟩
    have H := Holds.new ((w.alloc (Obj.cells #[Value.int IntKind.i64 n, Value.slice (some { block := w.heap.size + 1 + 1, off := 0 }) 1 1] 25)).alloc (Obj.cells #[Value.int IntKind.i64 n, Value.slice (some { block := w.heap.size + 1 + 1, off := 0 }) 1 1] 25)) #[.int .i64 0, .int .i64 n] 35
    have H2 := holds_rd2 (l := zl [(0, n)]) H
    simpa using H2

theorem asize_any (N : Int) (sl : Value) (w : World) :
    Calls Try.prog 23 #[.agg #[.int .i64 N, sl]] w fun e w' => e = .returned (.int .i64 N) ∧ Gr [] w w' := by
  have HG := Lib.hid ((Gr.refl [] w).alloc (Obj.cells #[.int .i64 N, sl] 25))
  go_enter Try.func23, Try.ntmps23
  go_wp2_with fail
  go_ret
  exact ⟨rfl, HG.out⟩
theorem sumL_take_succ {l : List (Nat × Nat)} {k : Nat} {e : Nat × Nat} (h : l[k]? = some e) : sumL (l.take (k + 1)) = sumL (l.take k) + e.2 := by
  obtain ⟨h1, h2⟩ := List.getElem?_eq_some_iff.1 h
  rw [List.take_succ_eq_append_getElem h1, sumL_append, h2]
  simp [sumL]
theorem sumL_take_le (l : List (Nat × Nat)) (k : Nat) : sumL (l.take k) ≤ sumL l := by
  have : sumL l = sumL (l.take k) + sumL (l.drop k) := by rw [← sumL_append, List.take_append_drop]
  omega
theorem SetIs.sum {w : World} {N : Nat} {l : List (Nat × Nat)} {ao : Option Addr} {cap : Nat} (h : SetIs w N l ao cap) (k : Nat) : sumL (l.take k) ≤ 65536 := by
  have a := sumL_take_le l k
  have b := sumL_le h.runs
  have c := h.hi
  omega

set_option maxHeartbeats 1000000 in
theorem afree_any (N : Nat) (l : List (Nat × Nat)) (ao : Option Addr) (cap : Nat) (w : World) (h : SetIs w N l ao cap) :
    Calls Try.prog 24 #[.agg #[.int .i64 N, .slice ao l.length cap]] w fun e w' => e = .returned (.int .i64 (sumL l)) ∧ Gr [] w w' := by
  have HG := Lib.hid ((Gr.refl [] w).alloc (Obj.cells #[.int .i64 N, .slice ao l.length cap] 25))
  have HS := Lib.hid h
  have hlen := h.len
  have hhi := h.hi
  clear h
  obtain ⟨n, hn⟩ : ∃ n, n = l.length := ⟨_, rfl⟩
  rw [← hn] at hlen HG ⊢
  have HN := Lib.hid hn
  clear hn
  go_enter Try.func24, Try.ntmps24
  go_wp2_with fail
  generalize w.alloc (Obj.cells #[.int .i64 N, .slice ao n cap] 25) = wa at *
  go_loopw [3, 9] (fun s i wr => ∃ k : Nat, k ≤ n ∧ s = .int .i64 (sumL (l.take k) : Nat) ∧ i = .int .i64 k ∧ Gr [] w wr) (fun _ i _ => n - (intOf i).toNat)
  case atStart => exact ⟨0, by omega, by simp [sumL], rfl, HG.out⟩
  case round =>
    obtain ⟨k, hk, rfl, rfl, G⟩ := hrel
    by_cases hlt : k < n
    · obtain ⟨e, he⟩ : ∃ e, l[k]? = some e := ⟨_, List.getElem?_eq_getElem (by have := HN.out; omega)⟩
      obtain ⟨b, o, hao, hb, c1, c2⟩ := HS.out.at he
      have m := HS.out.mem he
      have q := HS.out.sum k
      have HE := Lib.hid (sumL_take_succ he)
      subst hao
      have d1 : wr.cell? ⟨b, o + k * 2, none⟩ = some (.int .i64 (e.1 : Int)) := by rw [G.cell0 hb]; exact c1
      have d2 : wr.cell? ⟨b, o + k * 2 + 1, none⟩ = some (.int .i64 (e.2 : Int)) := by rw [G.cell0 hb]; exact c2
      have HG2 := Lib.hid (G.alloc (Obj.cells #[.int .i64 e.1, .int .i64 e.2] 35))
      clear c1 c2 G he
      go_wp2
      go_roundw
      case rel => exact ⟨k + 1, by omega, by rw [HE.out]; go_num, by go_num, HG2.out⟩
      case measure => simp [intOf]; omega
    · obtain rfl : k = n := by omega
      have HE := Lib.hid (show l.take k = l by rw [HN.out, List.take_length])
      have HG2 := Lib.hid G
      clear G
      go_wp2
      go_ret
      exact ⟨by rw [HE.out]; rfl, HG2.out⟩

/-! ### The search -/
set_option maxHeartbeats 2000000 in
theorem abin_any (N : Nat) (l : List (Nat × Nat)) (ao : Option Addr) (cap : Nat) (x : Int) (w : World) (h : SetIs w N l ao cap) :
    Calls Try.prog 108 #[.slice ao l.length cap, .int .i64 x, .func (.func 109) #[] #[]] w fun e w' => (∃ b, e = .returned (.tuple #[.int .i64 (fromI l x), .bool b])) ∧ Gr [] w w' := by
  have HS := Lib.hid h
  have hlen := h.len
  have hhi := h.hi
  clear h
  obtain ⟨n, hn⟩ : ∃ n, n = l.length := ⟨_, rfl⟩
  rw [← hn] at hlen ⊢
  have HN := Lib.hid hn
  clear hn
  go_enter Try.func108, Try.ntmps108
  go_wp2_with fail
  go_loopw [9, 10] (fun s t wr => ∃ i j : Nat, i ≤ j ∧ j ≤ n ∧ s = .int .i64 i ∧ t = .int .i64 j ∧ Gr [] w wr ∧ (∀ k e, k < i → l[k]? = some e → ((e.1 + e.2 : Nat) : Int) ≤ x) ∧ (∀ k e, j ≤ k → l[k]? = some e → x < ((e.1 + e.2 : Nat) : Int))) (fun s t _ => (intOf t).toNat - (intOf s).toNat)
  case atStart => exact ⟨0, n, by omega, by omega, rfl, rfl, Gr.refl _ _, fun k e hk => by omega, fun k e hk hl => by have := (List.getElem?_eq_some_iff.1 hl).1; have := HN.out; omega⟩
  case round =>
    obtain ⟨i, j, hij, hjn, rfl, rfl, G, L1, L2⟩ := hrel
    have HL := Lib.hid (And.intro L1 L2)
    clear L1 L2
    by_cases hlt : i < j
    · obtain ⟨m, hm⟩ : ∃ m, m = (i + j) / 2 := ⟨_, rfl⟩
      obtain ⟨e, he⟩ : ∃ e, l[m]? = some e := ⟨_, List.getElem?_eq_getElem (by have := HN.out; omega)⟩
      obtain ⟨b, o, hao, hb, c1, c2⟩ := HS.out.at he
      have q := HS.out.mem he
      subst hao
      have d1 : wr.cell? ⟨b, o + m * 2, none⟩ = some (.int .i64 (e.1 : Int)) := by rw [G.cell0 hb]; exact c1
      have d2 : wr.cell? ⟨b, o + m * 2 + 1, none⟩ = some (.int .i64 (e.2 : Int)) := by rw [G.cell0 hb]; exact c2
      have HC := Lib.hid (fun W => acmp_any (e.1 : Int) (e.2 : Int) x W (by rw [IntWalk.i64_in _ (by omega)]))
      have hm1 : i ≤ m := by omega
      have hm2 : m < j := by omega
      have em : ((i : Int) + (j : Int)) / 2 = (m : Int) := by omega
      have HX := Lib.hid (And.intro HS.out.runs he)
      have HG := Lib.hid G
      clear c1 c2 hm he G
      by_cases c : x < (e.1 : Int) + (e.2 : Int)
      · have HC2 := Lib.hid (fun W => by have := HC.out W; rw [if_pos c] at this; exact this)
        have HL2 := Lib.hid (show ∀ k e', m ≤ k → l[k]? = some e' → x < ((e'.1 + e'.2 : Nat) : Int) from fun k e' hk hl => by
          rcases Nat.lt_or_eq_of_le hk with q | q
          · have := ends_lt HX.out.1 q HX.out.2 hl
            omega
          · subst q
            rw [HX.out.2] at hl
            injection hl with hl
            subst hl
            omega)
        clear c HC
        go_wp2_with fail
        refine (HC2.out _).mono ?_
        rintro e' w' ⟨rfl, g⟩
        have HG2 := Lib.hid (HG.out.next0 g)
        clear g
        go_wp2
        go_roundw
        case rel => exact ⟨i, m, by omega, by omega, rfl, rfl, HG2.out, HL.out.1, HL2.out⟩
        case measure => simp [intOf]; omega
      · have HC2 := Lib.hid (fun W => by have := HC.out W; rw [if_neg c] at this; exact this)
        have HL2 := Lib.hid (show ∀ k e', k < m + 1 → l[k]? = some e' → ((e'.1 + e'.2 : Nat) : Int) ≤ x from fun k e' hk hl => by
          rcases Nat.lt_or_eq_of_le (Nat.le_of_lt_succ hk) with q | q
          · have := ends_lt HX.out.1 q hl HX.out.2
            omega
          · subst q
            rw [HX.out.2] at hl
            injection hl with hl
            subst hl
            omega)
        clear c HC
        go_wp2_with fail
        refine (HC2.out _).mono ?_
        rintro e' w' ⟨rfl, g⟩
        have HG2 := Lib.hid (HG.out.next0 g)
        clear g
        go_wp2
        go_roundw
        case rel => exact ⟨m + 1, j, by omega, by omega, by go_num, rfl, HG2.out, HL2.out, HL.out.2⟩
        case measure => simp [intOf]; omega
    · obtain rfl : i = j := by omega
      have HI := Lib.hid (show i = fromI l x from fromI_is (by have := HN.out; omega) HL.out.1 (fun e he => HL.out.2 i e (Nat.le_refl _) he))
      have HG := Lib.hid G
      clear G
      by_cases c : i < n
      · obtain ⟨e, he⟩ : ∃ e, l[i]? = some e := ⟨_, List.getElem?_eq_getElem (by have := HN.out; omega)⟩
        obtain ⟨b, o, hao, hb, c1, c2⟩ := HS.out.at he
        have q := HS.out.mem he
        subst hao
        have d1 : wr.cell? ⟨b, o + i * 2, none⟩ = some (.int .i64 (e.1 : Int)) := by rw [HG.out.cell0 hb]; exact c1
        have d2 : wr.cell? ⟨b, o + i * 2 + 1, none⟩ = some (.int .i64 (e.2 : Int)) := by rw [HG.out.cell0 hb]; exact c2
        have HC := Lib.hid (fun W => acmp_any (e.1 : Int) (e.2 : Int) x W (by rw [IntWalk.i64_in _ (by omega)]))
        have hx := HL.out.2 i e (Nat.le_refl _) he
        have HC2 := Lib.hid (fun W => by have := HC.out W; rw [if_pos (by omega)] at this; exact this)
        clear c1 c2 he hx HC
        go_wp2_with fail
        refine (HC2.out _).mono ?_
        rintro e' w' ⟨rfl, g⟩
        have HG2 := Lib.hid (HG.out.next0 g)
        clear g
        go_wp2
        go_ret2
        exact ⟨⟨false, by rw [← HI.out]; rfl⟩, HG2.out⟩
      · have hd : decide ((i : Int) < (n : Int)) = false := by simp; omega
        go_wp2_with fail
        go_ret2
        exact ⟨⟨false, by rw [← HI.out]; rfl⟩, HG.out⟩

theorem afrom_any (N : Nat) (l : List (Nat × Nat)) (ao : Option Addr) (cap : Nat) (x : Int) (w : World) (h : SetIs w N l ao cap) :
    Calls Try.prog 73 #[.agg #[.int .i64 N, .slice ao l.length cap], .int .i64 x] w fun e w' => e = .returned (.int .i64 (fromI l x)) ∧ Gr [] w w' := by
  have HG := Lib.hid ((Gr.refl [] w).alloc (Obj.cells #[.int .i64 N, .slice ao l.length cap] 25))
  have HB := Lib.hid (fun (W : World) (g : Gr [] w W) => abin_any N l ao cap x W (h.gr0 g))
  clear h
  obtain ⟨n, hn⟩ : ∃ n, n = l.length := ⟨_, rfl⟩
  rw [← hn] at HG HB ⊢
  clear hn
  go_enter Try.func73, Try.ntmps73
  go_wp2_with fail
  refine (HB.out _ HG.out).mono ?_
  rintro e' w' ⟨⟨b, rfl⟩, g⟩
  have HG2 := Lib.hid (HG.out.next0 g)
  clear g
  go_wp2_with fail
  go_ret
  exact ⟨rfl, HG2.out⟩

end Go.Proofs.Ytpkhfdcokcchdaa

/-
  The library's functions laid at this seat (numbers of seat D: for another seat print anew by wip/gen/saylay.py).
-/
namespace Go.Proofs.Ytpkhfdcokcchdaa
open Go.RowKit Go.Shelf

def AlB.grow_ren : Go.Shelf.Ren := ⟨fun | 4 => 118 | n => n, fun | 22 => 23 | 25 => 35 | 3 => 3 | 4 => 4 | 9 => 9 | 20 => 20 | 0 => 0 | 2 => 3 | n => n, fun | n => n⟩
theorem AlB.grow : Go.Proofs.Lays8.n4 Try.prog AlB.grow_ren where
  mixed := by kernel_rfl
  f4 := ⟨ "slices.Grow[[]gabion/alloc.Extent,gabion/alloc.Extent]", by decide, Try.func118.trans (congrArg some (by kernel_rfl))⟩
  t0 := Try.underlying0
  a0 := Try.isAgg0
  z0 := Try.sizeOf0
  v0 := Try.zeroValue0
  t3 := Try.underlying3
  a3 := Try.isAgg3
  z3 := Try.sizeOf3
  v3 := Try.zeroValue3
  t4 := Try.underlying4
  a4 := Try.isAgg4
  z4 := Try.sizeOf4
  v4 := Try.zeroValue4
  t9 := Try.underlying9
  a9 := Try.isAgg9
  z9 := Try.sizeOf9
  v9 := Try.zeroValue9
  t20 := Try.underlying20
  a20 := Try.isAgg20
  z20 := Try.sizeOf20
  v20 := Try.zeroValue20
  t22 := Try.underlying23
  a22 := Try.isAgg23
  z22 := Try.sizeOf23
  v22 := Try.zeroValue23

end Go.Proofs.Ytpkhfdcokcchdaa

/-
  alloc: List (slices.Clone), slices.Concat, with.
-/
namespace Go.Proofs.Ytpkhfdcokcchdaa
open Go.RowKit

theorem infoExt : (Try.prog.info? 35).map (fun i => (i.zero, i.size, i.bytes)) = some (some (.agg #[.int .i64 0, .int .i64 0]), 2, 16) := by kernel_rfl
set_option maxHeartbeats 1000000 in
theorem aclone_any (ao : Option Addr) (l : List (Int × Int)) (cap : Nat) (w : World) (h : Rd2 w ao l) (hl : l.length ≤ 70000) (hc : l.length ≤ cap) (hn : ao = none → cap = 0) :
    Calls Try.prog 78 #[.slice ao l.length cap] w fun e w' => ∃ v, e = .returned v ∧ w'.ownsRow w.heap.size 35 2 v l.length (cells2 l) ∧ Gr [] w w' := by
  obtain ⟨i0, hi, hz0, hz1, hz2⟩ := info_parts infoExt
  have hcells := cells2_len l
  have hone := cells2_one l
  cases ao with
  | none =>
    obtain rfl := hn rfl
    have h0 : l = [] := List.length_eq_zero_iff.1 (by omega)
    subst h0
    have he := fun (W : World) => Lib.run_eql_slice_nil (P := Try.prog) W 23 35 none 0 0 0 0 Try.underlying23
    go_enter Try.func78, Try.ntmps78
    go_wp2_with fail
    go_ret
    exact ⟨_, rfl, World.ownsRow_nil _ _ _ _, Gr.refl _ _⟩
  | some a =>
    have hr := (h.gr0 ((Gr.refl _ w).alloc (Obj.cells #[] 35))).cells rfl
    have HN := Lib.hid (And.intro hr (And.intro hcells hone))
    clear hr hcells hone h
    have he := fun (W : World) (n c : Nat) => Lib.run_eql_slice_nil (P := Try.prog) W 23 35 (some a) n c 0 0 Try.underlying23
    obtain ⟨n, hn2⟩ : ∃ n, n = l.length := ⟨_, rfl⟩
    rw [← hn2] at HN hl ⊢
    clear hn2
    have hown := World.ownsRow_made (base := w.heap.size) (e := 35) (size := 2) w #[] 0 (Nat.le_refl _) (Nat.zero_le _) rfl
    have HR := Lib.hid hown
    clear hown
    go_enter Try.func78, Try.ntmps78
    go_wp2_with (at_builtin; refine wpList_append_own _ rfl _ _ 23 rfl w.heap.size 35 i0 _ 2 16 Try.underlying23 hi hz0 hz1 hz2 rfl (by decide) _ _ _ rfl HR.out a n cap (cells2 l) rfl ?c1 ?c2 ?c3 ?c4 ?c5 ?c6 ?_)
    case c1 => exact HN.out.2.1
    case c2 => exact HN.out.1
    case c3 => exact HN.out.2.2
    case c4 => unfold maxLen; omega
    case c5 => omega
    case c6 => simp
    intro v' w1 hown' hgrow _
    have HF := Lib.hid (And.intro hown' hgrow)
    clear hown' hgrow
    go_wp2_with fail
    go_ret
    exact ⟨_, rfl, HF.out.1, ((Gr.refl [] w).alloc _).grown HF.out.2 (fun k hk => .inr (by simp [Value.ownBlock] at hk; omega))⟩

theorem agrow_any (n : Nat) (w : World) (hn : n ≤ 1000000) :
    Calls Try.prog 118 #[.slice none 0 0, .int .i64 n] w fun e w' => ∃ v, e = .returned v ∧ w'.ownsRow w.heap.size 35 2 v 0 [] ∧ Gr [] w w' := by
  by_cases h0 : n = 0
  · subst h0
    refine (Any8.slices_Grow_room AlB.grow none 0 0 0 w (by omega) (by omega) (by omega) (by omega)).mono ?_
    rintro e w' ⟨rfl, rfl⟩
    exact ⟨_, rfl, World.ownsRow_nil _ _ _ _, Gr.refl _ _⟩
  · obtain ⟨i0, hi, hz0, hz1, hz2⟩ := info_parts infoExt
    refine (Any8.slices_Grow_grow AlB.grow i0 _ hi hz0 (by omega) none 0 0 n [] w (by omega) (by omega) (by rw [hz2]; omega) (by omega) (by simp) (fun _ => rfl) (fun a ha => by cases ha)).mono ?_
    rintro e w' ⟨rfl, rfl⟩
    have hge : n ≤ grownCap w (0 + n) 0 35 := by have := grownCap_ge w (0 + n) 0 35; omega
    have hle := grownCap_le_maxLen w (0 + n) 0 35 (by unfold maxLen; omega)
    refine ⟨_, rfl, World.ownsRow_made (base := w.heap.size) (size := 2) w.drew _ _ (Nat.le_refl _) hle ?_, (Gr.refl [] w).drew.alloc _⟩
    have hz : ∀ k, (Builtin.zeroCells (Value.cells (.agg #[.int .i64 0, .int .i64 0])) k).size = k * 2 := fun k => by
      simp [Builtin.zeroCells, Value.cells]
    rw [Array.size_append, Array.size_append, hz, hz]
    show 0 + (0 + n - 0) * 2 + (grownCap w (0 + n) 0 35 - (0 + n)) * 2 = grownCap w (0 + n) 0 35 * 2
    omega

/-! ### Concat -/
def catP (LL : List (Option Addr × Nat × List (Int × Int))) : List (Int × Int) := LL.flatMap fun x => x.2.2
theorem catP_len_take (LL : List (Option Addr × Nat × List (Int × Int))) (k : Nat) : (catP (LL.take k)).length ≤ (catP LL).length := by
  have : catP LL = catP (LL.take k) ++ catP (LL.drop k) := by unfold catP; rw [← List.flatMap_append, List.take_append_drop]
  rw [this, List.length_append]; omega
theorem catP_succ (LL : List (Option Addr × Nat × List (Int × Int))) (k : Nat) (x : Option Addr × Nat × List (Int × Int)) (h : LL[k]? = some x) : catP (LL.take (k + 1)) = catP (LL.take k) ++ x.2.2 := by
  obtain ⟨h1, h2⟩ := List.getElem?_eq_some_iff.1 h
  rw [List.take_succ_eq_append_getElem h1, h2]
  simp [catP]
/-- The slices that are put together lie in w. -/
structure CatIn (LL : List (Option Addr × Nat × List (Int × Int))) (bb : Nat) (w : World) : Prop where
  cell : ∀ i x, LL[i]? = some x → w.cell? ⟨bb, i, none⟩ = some (.slice x.1 x.2.2.length x.2.1)
  lt : bb < w.heap.size
  rd : ∀ x ∈ LL, Rd2 w x.1 x.2.2
  cap : ∀ x ∈ LL, x.2.2.length ≤ x.2.1 ∧ (x.1 = none → x.2.1 = 0)
theorem CatIn.gr0 {LL : List (Option Addr × Nat × List (Int × Int))} {bb : Nat} {w w' : World} (h : CatIn LL bb w) (g : Gr [] w w') : CatIn LL bb w' :=
  ⟨fun i x hx => by rw [g.cell0 h.lt]; exact h.cell i x hx, Nat.lt_of_lt_of_le h.lt g.size, fun x hx => (h.rd x hx).gr0 g, h.cap⟩

set_option maxRecDepth 20000 in
set_option maxHeartbeats 2000000 in
theorem aconcat_any (LL : List (Option Addr × Nat × List (Int × Int))) (bb cp : Nat) (w : World) (h : CatIn LL bb w) (hL : LL.length ≤ 100) (hS : (catP LL).length ≤ 1000000) :
    Calls Try.prog 110 #[.slice (some ⟨bb, 0, none⟩) LL.length cp] w fun e w' => ∃ v, e = .returned v ∧ w'.ownsRow w.heap.size 35 2 v (catP LL).length (cells2 (catP LL)) ∧ Gr [] w w' := by
  obtain ⟨i0, hi, hz0, hz1, hz2⟩ := info_parts infoExt
  have H := Lib.hid h
  have HS := Lib.hid hS
  clear h hS
  obtain ⟨n, hn⟩ : ∃ n, n = LL.length := ⟨_, rfl⟩
  rw [← hn] at hL ⊢
  have HN := Lib.hid hn
  clear hn
  have HG := Lib.hid agrow_any
  go_enter Try.func110, Try.ntmps110
  go_wp2_with fail
  go_loopw [3, 11] (fun s i wr => ∃ k : Nat, k ≤ n ∧ s = .int .i64 ((catP (LL.take k)).length : Nat) ∧ i = .int .i64 k ∧ w = wr) (fun _ i _ => n - (intOf i).toNat)
  case atStart => exact ⟨0, by omega, by simp [catP], rfl, rfl⟩
  case round =>
    obtain ⟨k, hk, rfl, rfl, rfl⟩ := hrel
    by_cases hlt : k < n
    · obtain ⟨x, hx⟩ : ∃ x, LL[k]? = some x := ⟨_, List.getElem?_eq_getElem (by have := HN.out; omega)⟩
      have c1 := H.out.cell k x hx
      have q := catP_succ LL k x hx
      have q1 := catP_len_take LL (k + 1)
      have q2 := HS.out
      have q3 : (catP (LL.take (k + 1))).length = (catP (LL.take k)).length + x.2.2.length := by rw [q, List.length_append]
      have HE := Lib.hid q3
      obtain ⟨m, hm⟩ : ∃ m, m = (catP (LL.take k)).length := ⟨_, rfl⟩
      obtain ⟨m2, hm2⟩ : ∃ m2, m2 = x.2.2.length := ⟨_, rfl⟩
      rw [← hm, ← hm2] at q3 HE
      rw [← hm2] at c1
      rw [← hm]
      have b1 : m + m2 ≤ 1000000 := by omega
      clear q q1 q2 q3 hx hm hm2
      go_wp2
      go_roundw
      case rel => exact ⟨k + 1, by omega, by rw [HE.out]; go_num, by go_num, by first | rfl | trivial⟩
      case measure => simp [intOf]; omega
    · obtain rfl : k = n := by omega
      have HE := Lib.hid (show catP (LL.take k) = catP LL by rw [HN.out, List.take_length])
      rw [HE.out]
      obtain ⟨m, hm⟩ : ∃ m, m = (catP LL).length := ⟨_, rfl⟩
      rw [← hm]
      have b1 : m ≤ 1000000 := by rw [hm]; exact HS.out
      have HM := Lib.hid hm
      clear hm
      go_wp2_with fail
      refine (HG.out m _ b1).mono ?_
      rintro e w1 ⟨v, rfl, ho, g⟩
      have HO := Lib.hid (And.intro ho g)
      clear ho g
      go_wp2_with fail
      go_loopw [6, 27] (fun s i wa => ∃ k' : Nat, k' ≤ k ∧ i = .int .i64 k' ∧ wa.ownsRow w.heap.size 35 2 s (catP (LL.take k')).length (cells2 (catP (LL.take k'))) ∧ Gr [] w wa) (fun _ i _ => k - (intOf i).toNat)
      case atStart => exact ⟨0, by omega, rfl, by simpa [catP, cells2] using HO.out.1, HO.out.2⟩
      case round =>
        obtain ⟨k', hk', rfl, ho, g⟩ := hrel
        have HO := Lib.hid (And.intro ho g)
        clear ho g
        by_cases hlt : k' < k
        · obtain ⟨x, hx⟩ : ∃ x, LL[k']? = some x := ⟨_, List.getElem?_eq_getElem (by have := HN.out; omega)⟩
          have c1 := (H.out.gr0 HO.out.2).cell k' x hx
          have q := catP_succ LL k' x hx
          have q1 := catP_len_take LL (k' + 1)
          have q3 : (catP (LL.take (k' + 1))).length = (catP (LL.take k')).length + x.2.2.length := by rw [q, List.length_append]
          have hb1 : (catP (LL.take k')).length + x.2.2.length ≤ 1000000 := by have := HM.out; omega
          have hrd := (H.out.gr0 HO.out.2).rd x (List.mem_of_getElem? hx)
          have hcap := H.out.cap x (List.mem_of_getElem? hx)
          have HE := Lib.hid q
          have HB := Lib.hid hb1
          obtain ⟨xa, xc, xl⟩ := x
          simp only at c1 hrd hcap
          clear q q1 q3 hb1 hx
          cases xa with
          | none =>
            obtain rfl := hcap.2 rfl
            have h0 : xl = [] := List.length_eq_zero_iff.1 (by omega)
            subst h0
            have c2 : wr.cell? ⟨bb, k', none⟩ = some (.slice none 0 0) := c1
            clear c1 hrd hcap
            go_wp2_with (at_builtin; refine wpList_append_own_none rfl _ _ 23 rfl w.heap.size 35 i0 2 Try.underlying23 hi _ _ _ rfl HO.out.1 rfl ?_)
            have HF := Lib.hid (show catP (LL.take (k' + 1)) = catP (LL.take k') by have := HE.out; simp only [List.append_nil] at this; exact this)
            go_roundw
            case rel => exact ⟨k' + 1, by omega, by go_num, by rw [HF.out]; exact HO.out.1, HO.out.2⟩
            case measure => simp [intOf]; omega
          | some a =>
            have HR := Lib.hid (And.intro (hrd.cells rfl) (And.intro (cells2_len xl) (cells2_one xl)))
            obtain ⟨m2, hm2⟩ : ∃ m2, m2 = xl.length := ⟨_, rfl⟩
            rw [← hm2] at c1 HR HB
            have HM2 := Lib.hid hm2
            clear hrd hcap hm2
            go_wp2_with (at_builtin; refine wpList_append_own _ rfl _ _ 23 rfl w.heap.size 35 i0 _ 2 16 Try.underlying23 hi hz0 hz1 hz2 rfl (by decide) _ _ _ rfl HO.out.1 a m2 _ (cells2 xl) rfl HR.out.2.1 HR.out.1 HR.out.2.2 (by have := HB.out; unfold maxLen; omega) (by have := HB.out; omega) HO.out.2.size ?_)
            intro v' w1 hown' hgrow _
            have hlt2 := HO.out.1.lt
            have HF := Lib.hid (show w1.ownsRow w.heap.size 35 2 v' (catP (LL.take (k' + 1))).length (cells2 (catP (LL.take (k' + 1)))) ∧ Gr [] w w1 by
              refine ⟨?_, HO.out.2.grown hgrow (fun j hj => .inr (hlt2 j hj).1)⟩
              rw [HE.out, cells2_append, List.length_append]
              show w1.ownsRow _ _ _ _ (_ + xl.length) _
              rw [← HM2.out]
              exact hown')
            clear hown' hgrow hlt2
            go_wp2
            go_roundw
            case rel => exact ⟨k' + 1, by omega, by go_num, HF.out.1, HF.out.2⟩
            case measure => simp [intOf]; omega
        · obtain rfl : k' = k := by omega
          have HE2 := Lib.hid (show catP (LL.take k') = catP LL by rw [HN.out, List.take_length])
          go_wp2_with fail
          go_ret
          exact ⟨_, rfl, by rw [← HE2.out, HM.out, ← HE2.out]; exact HO.out.1, HO.out.2⟩

end Go.Proofs.Ytpkhfdcokcchdaa

/-
  alloc: with.
-/
namespace Go.Proofs.Ytpkhfdcokcchdaa
open Go.RowKit

theorem own_form {w : World} {base : Nat} {e : TypeId} {size n : Nat} {v : Value} {xs : List Value} (h : w.ownsRow base e size v n xs) : ∃ ao cap, v = .slice ao n cap := by
  rcases h.2 with ⟨rfl, rfl⟩ | ⟨g, cap, cur, rfl, _⟩
  · exact ⟨none, 0, rfl⟩
  · exact ⟨_, _, rfl⟩
theorem aconcat_is (LL : List (Option Addr × Nat × List (Int × Int))) (RL : List (Int × Int)) (m bb cp : Nat) (w : World) (hR : catP LL = RL) (hm : m = RL.length) (h : CatIn LL bb w) (hL : LL.length ≤ 100) (hS : m ≤ 1000000) :
    Calls Try.prog 110 #[.slice (some ⟨bb, 0, none⟩) LL.length cp] w fun e w' => ∃ ao cap, e = .returned (.slice ao m cap) ∧ w'.ownsRow w.heap.size 35 2 (.slice ao m cap) m (cells2 RL) ∧ Gr [] w w' := by
  refine (aconcat_any LL bb cp w h hL (by rw [hR, ← hm]; exact hS)).mono ?_
  rintro e w' ⟨v, rfl, ho, g⟩
  rw [hR, ← hm] at ho
  obtain ⟨ao, cap, rfl⟩ := own_form ho
  exact ⟨ao, cap, rfl, ho, g⟩
/-- Three slices put together. -/
theorem catP3 (a b c : Option Addr × Nat × List (Int × Int)) : catP [a, b, c] = a.2.2 ++ b.2.2 ++ c.2.2 := by simp [catP]
set_option maxRecDepth 20000 in
set_option maxHeartbeats 2000000 in
theorem awith_some (N f t m : Nat) (l RL : List (Nat × Nat)) (b o cap : Nat) (a2 : Option Addr) (l2 : List (Nat × Nat)) (c2 : Nat) (w : World) (h : SetIs w N l (some ⟨b, o, none⟩) cap) (hf : f ≤ l.length) (ht : t ≤ l.length)
    (h2 : Rd2 w a2 (zl l2)) (hc2 : l2.length ≤ c2) (hn2 : a2 = none → c2 = 0) (hl2 : l2.length ≤ 100000) (hRL : RL = l.take f ++ l2 ++ l.drop t) (hm : m = RL.length) :
    Calls Try.prog 75 #[.agg #[.int .i64 N, .slice (some ⟨b, o, none⟩) l.length cap], .int .i64 f, .int .i64 t, .slice a2 l2.length c2] w fun e w' =>
      ∃ ao' cap', e = .returned (.agg #[.int .i64 N, .slice ao' m cap']) ∧ Sl2 w' (.slice ao' m cap') (zl RL) ∧ Gr [] w w' ∧ ∀ k o', ao' = some ⟨k, o', none⟩ → w.heap.size ≤ k := by
  have HRL := Lib.hid (And.intro hRL hm)
  clear hRL hm
  have HS := Lib.hid h
  have hlen := h.len
  have hhi := h.hi
  have hcap := h.cap1
  have hcap2 := h.cap2
  unfold maxLen at hcap2
  clear h
  obtain ⟨n, hn⟩ : ∃ n, n = l.length := ⟨_, rfl⟩
  rw [← hn] at hlen hf ht hcap ⊢
  have HN := Lib.hid hn
  clear hn
  obtain ⟨n2, hn2'⟩ : ∃ n2, n2 = l2.length := ⟨_, rfl⟩
  rw [← hn2'] at hc2 hl2 ⊢
  have HN2 := Lib.hid hn2'
  clear hn2'
  have H2 := Lib.hid (And.intro h2 (And.intro hc2 hn2))
  clear h2 hc2 hn2
  go_enter Try.func75, Try.ntmps75
  go_wp2_with fail
  have X1 := (Holds.new w #[.int .i64 N, .slice (some ⟨b, o, none⟩) n cap] 25).alloc (Obj.cells #[.int .i64 0, .slice none 0 0] 25)
  have k0 := X1.cell 0
  have k1 := X1.cell 1
  have HG := Lib.hid (((Gr.refl [] w).alloc (Obj.cells #[.int .i64 N, .slice (some ⟨b, o, none⟩) n cap] 25)).alloc (Obj.cells #[.int .i64 0, .slice none 0 0] 25))
  have X2 := Holds.new (w.alloc (Obj.cells #[.int .i64 N, .slice (some ⟨b, o, none⟩) n cap] 25)) #[.int .i64 0, .slice none 0 0] 25
  rw [World.size_alloc] at X2
  generalize (w.alloc (Obj.cells #[.int .i64 N, .slice (some ⟨b, o, none⟩) n cap] 25)).alloc (Obj.cells #[.int .i64 0, .slice none 0 0] 25) = wa at *
  have HB := Lib.hid (show ∀ w5 : World, Gr [] wa w5 → w5.cell? ⟨w.heap.size, 0, none⟩ = some (.int .i64 N) ∧ w5.cell? ⟨w.heap.size, 1, none⟩ = some (.slice (some ⟨b, o, none⟩) n cap) from fun w5 g => And.intro ((X1.gr0 g).cell 0) ((X1.gr0 g).cell 1))
  have HT := Lib.hid (show ∀ w5 : World, Gr [] wa w5 → w5.cell? ⟨w.heap.size + 1, 0, none⟩ = some (.int .i64 0) ∧ w5.cell? ⟨w.heap.size + 1, 1, none⟩ = some (.slice none 0 0) ∧ w5.frozen? ⟨w.heap.size + 1, 0, none⟩ = false ∧ w5.frozen? ⟨w.heap.size + 1, 1, none⟩ = false from fun w5 g => ⟨(X2.gr0 g).cell 0, (X2.gr0 g).cell 1, (X2.gr0 g).frozen 0, (X2.gr0 g).frozen 1⟩)
  have HLT := Lib.hid X2.lt
  have hfr : (f : Int) ≤ cap := by omega
  have htn : (t : Int) ≤ n := by omega
  have hnc : (n : Int) ≤ cap := by omega
  generalize hbx : w.heap.size = bx at *
  have HBX := Lib.hid hbx
  clear hbx
  clear X1 X2
  obtain ⟨A3, hA3⟩ : ∃ A3, A3 = (if cap = t then some (⟨b, o, none⟩ : Addr) else some ⟨b, o + t * 2, none⟩) := ⟨_, rfl⟩
  have hR3 : Rd2 w A3 (zl (l.drop t)) := by
    rw [zl_drop, hA3]
    by_cases e : cap = t
    · rw [if_pos e]
      have : (zl l).drop t = [] := List.drop_eq_nil_of_le (by rw [zl_len, ← HN.out]; omega)
      rw [this]; exact Rd2.nil _ _
    · rw [if_neg e]; exact HS.out.rd.drop t
  have hR1 : Rd2 w (some ⟨b, o, none⟩) (zl (l.take f)) := by rw [zl_take]; exact HS.out.rd.take f
  have e1 : (zl (l.take f)).length = f := by rw [zl_len, List.length_take, ← HN.out]; omega
  have e2 : (zl l2).length = n2 := by rw [zl_len, HN2.out]
  have e3 : (zl (l.drop t)).length = n - t := by rw [zl_len, List.length_drop, ← HN.out]
  have HCI := Lib.hid (show CatIn [(some ⟨b, o, none⟩, cap, zl (l.take f)), (a2, c2, zl l2), (A3, cap - t, zl (l.drop t))] wa.heap.size ((wa.alloc (Obj.cells #[.slice (some ⟨b, o, none⟩) f cap, .slice a2 n2 c2, .slice A3 (n - t) (cap - t)] 23)).drew) by
    have g := (HG.out.alloc (Obj.cells #[.slice (some ⟨b, o, none⟩) f cap, .slice a2 n2 c2, .slice A3 (n - t) (cap - t)] 23)).drew
    have X := Holds.new wa #[.slice (some ⟨b, o, none⟩) f cap, .slice a2 n2 c2, .slice A3 (n - t) (cap - t)] 23
    refine ⟨fun i x hx => ?_, X.lt, fun x hx => ?_, fun x hx => ?_⟩
    · match i, hx with
      | 0, hx => simp at hx; subst hx; rw [e1]; exact X.cell 0
      | 1, hx => simp at hx; subst hx; rw [e2]; exact X.cell 1
      | 2, hx => simp at hx; subst hx; rw [e3]; exact X.cell 2
      | i + 3, hx => simp at hx
    · simp at hx
      rcases hx with rfl | rfl | rfl
      · exact hR1.gr0 g
      · exact H2.out.1.gr0 g
      · exact hR3.gr0 g
    · simp at hx
      rcases hx with rfl | rfl | rfl
      · exact ⟨by show (zl (l.take f)).length ≤ cap; rw [e1]; omega, fun e => by cases e⟩
      · exact ⟨by show (zl l2).length ≤ c2; rw [e2]; exact H2.out.2.1, H2.out.2.2⟩
      · refine ⟨by show (zl (l.drop t)).length ≤ cap - t; rw [e3]; omega, fun e => ?_⟩
        have e' : A3 = none := e
        rw [hA3] at e'
        split at e' <;> cases e')
  have HG2 := Lib.hid ((Gr.refl [] wa).alloc (Obj.cells #[.slice (some ⟨b, o, none⟩) f cap, .slice a2 n2 c2, .slice A3 (n - t) (cap - t)] 23))
  have hcat : catP [(some ⟨b, o, none⟩, cap, zl (l.take f)), (a2, c2, zl l2), (A3, cap - t, zl (l.drop t))] = zl RL := by
    rw [catP3, HRL.out.1, zl_append, zl_append]
  have HCAT := Lib.hid hcat
  have hm1 : m ≤ 1000000 := by rw [HRL.out.2, HRL.out.1]; simp only [List.length_append, List.length_take, List.length_drop, ← HN.out, ← HN2.out]; omega
  have HM := Lib.hid (show m = (zl RL).length by rw [zl_len, HRL.out.2])
  clear hR1 hR3 e1 e2 e3 hcat
  have HS0 : wa.drew.cell? ⟨bx, 0, none⟩ = some (.int .i64 N) ∧ wa.drew.cell? ⟨bx, 1, none⟩ = some (.slice (some ⟨b, o, none⟩) n cap) := ⟨k0, k1⟩
  go_region_held3 (fun w' : World => w'.cell? ⟨bx, 0, none⟩ = some (.int .i64 N) ∧ w'.cell? ⟨bx, 1, none⟩ = some (.slice (some ⟨b, o, none⟩) n cap)) (first | assumption | go_keep) ((first
    | (go_at_call 110; rw [← hA3]; clear hA3; refine (aconcat_is _ _ m _ _ _ HCAT.out HM.out HCI.out (by simp) hm1).mono ?_; rintro e w5 ⟨ao', cap', rfl, ho, g⟩; have g5 := HG2.out.drew.trans g; have s5 := HB.out _ g5; obtain ⟨t0, t1, f0, f1⟩ := HT.out _ g5; have H5 := Lib.hid (And.intro ho g5); clear ho g g5)))
  go_wp2_with fail
  refine bodyPost_ret (v := .agg #[.int .i64 N, .slice ao' m cap']) (by simp [results, Try.results75, go_sem, *]) rfl ⟨ao', cap', rfl, ?_, ?_, ?_⟩
  · have h0 := own_sl2 H5.out.1
    obtain ⟨g1, g2⟩ := H5.out
    have hb := g1.lt
    refine h0.gr (bs := [bx + 1]) (((Gr.refl _ _).setCell (p := ⟨bx + 1, 0, none⟩) (.inl (by simp)) _).setCell (p := ⟨bx + 1, 1, none⟩) (.inl (by simp)) _) fun k hk e => ?_
    have := (hb k hk).1
    have hw := HLT.out
    simp at e this
    omega
  · exact ((HG.out.trans H5.out.2).setCell (p := ⟨bx + 1, 0, none⟩) (.inr (by rw [HBX.out]; simp)) _).setCell (p := ⟨bx + 1, 1, none⟩) (.inr (by rw [HBX.out]; simp)) _
  · intro k o' hk
    subst hk
    have h1 := (H5.out.1.lt k rfl).1
    have h2 := HG.out.size
    simp at h1
    omega

set_option maxRecDepth 20000 in
set_option maxHeartbeats 2000000 in
theorem awith_none (N m : Nat) (RL : List (Nat × Nat)) (a2 : Option Addr) (l2 : List (Nat × Nat)) (c2 : Nat) (w : World) 
    (h2 : Rd2 w a2 (zl l2)) (hc2 : l2.length ≤ c2) (hn2 : a2 = none → c2 = 0) (hl2 : l2.length ≤ 100000) (hRL : RL = l2) (hm : m = RL.length) :
    Calls Try.prog 75 #[.agg #[.int .i64 N, .slice none 0 0], .int .i64 0, .int .i64 0, .slice a2 l2.length c2] w fun e w' =>
      ∃ ao' cap', e = .returned (.agg #[.int .i64 N, .slice ao' m cap']) ∧ Sl2 w' (.slice ao' m cap') (zl RL) ∧ Gr [] w w' ∧ ∀ k o', ao' = some ⟨k, o', none⟩ → w.heap.size ≤ k := by
  have HRL := Lib.hid (And.intro hRL hm)
  clear hRL hm
  obtain ⟨n2, hn2'⟩ : ∃ n2, n2 = l2.length := ⟨_, rfl⟩
  rw [← hn2'] at hc2 hl2 ⊢
  have HN2 := Lib.hid hn2'
  clear hn2'
  have H2 := Lib.hid (And.intro h2 (And.intro hc2 hn2))
  clear h2 hc2 hn2
  go_enter Try.func75, Try.ntmps75
  go_wp2_with fail
  have X1 := (Holds.new w #[.int .i64 N, .slice none 0 0] 25).alloc (Obj.cells #[.int .i64 0, .slice none 0 0] 25)
  have k0 := X1.cell 0
  have k1 := X1.cell 1
  have HG := Lib.hid (((Gr.refl [] w).alloc (Obj.cells #[.int .i64 N, .slice none 0 0] 25)).alloc (Obj.cells #[.int .i64 0, .slice none 0 0] 25))
  have X2 := Holds.new (w.alloc (Obj.cells #[.int .i64 N, .slice none 0 0] 25)) #[.int .i64 0, .slice none 0 0] 25
  rw [World.size_alloc] at X2
  generalize (w.alloc (Obj.cells #[.int .i64 N, .slice none 0 0] 25)).alloc (Obj.cells #[.int .i64 0, .slice none 0 0] 25) = wa at *
  have HB := Lib.hid (show ∀ w5 : World, Gr [] wa w5 → w5.cell? ⟨w.heap.size, 0, none⟩ = some (.int .i64 N) ∧ w5.cell? ⟨w.heap.size, 1, none⟩ = some (.slice none 0 0) from fun w5 g => And.intro ((X1.gr0 g).cell 0) ((X1.gr0 g).cell 1))
  have HT := Lib.hid (show ∀ w5 : World, Gr [] wa w5 → w5.cell? ⟨w.heap.size + 1, 0, none⟩ = some (.int .i64 0) ∧ w5.cell? ⟨w.heap.size + 1, 1, none⟩ = some (.slice none 0 0) ∧ w5.frozen? ⟨w.heap.size + 1, 0, none⟩ = false ∧ w5.frozen? ⟨w.heap.size + 1, 1, none⟩ = false from fun w5 g => ⟨(X2.gr0 g).cell 0, (X2.gr0 g).cell 1, (X2.gr0 g).frozen 0, (X2.gr0 g).frozen 1⟩)
  have HLT := Lib.hid X2.lt
  generalize hbx : w.heap.size = bx at *
  have HBX := Lib.hid hbx
  clear hbx
  clear X1 X2
  have e2 : (zl l2).length = n2 := by rw [zl_len, HN2.out]
  have HCI := Lib.hid (show CatIn [((none : Option Addr), 0, []), (a2, c2, zl l2), (none, 0, [])] wa.heap.size ((wa.alloc (Obj.cells #[.slice none 0 0, .slice a2 n2 c2, .slice none 0 0] 23)).drew) by
    have g := (HG.out.alloc (Obj.cells #[.slice none 0 0, .slice a2 n2 c2, .slice none 0 0] 23)).drew
    have X := Holds.new wa #[.slice none 0 0, .slice a2 n2 c2, .slice none 0 0] 23
    refine ⟨fun i x hx => ?_, X.lt, fun x hx => ?_, fun x hx => ?_⟩
    · match i, hx with
      | 0, hx => simp at hx; subst hx; exact X.cell 0
      | 1, hx => simp at hx; subst hx; rw [e2]; exact X.cell 1
      | 2, hx => simp at hx; subst hx; exact X.cell 2
      | i + 3, hx => simp at hx
    · simp at hx
      rcases hx with rfl | rfl | rfl
      · exact Rd2.nil _ _
      · exact H2.out.1.gr0 g
      · exact Rd2.nil _ _
    · simp at hx
      rcases hx with rfl | rfl | rfl
      · exact ⟨Nat.le_refl _, fun _ => rfl⟩
      · exact ⟨by show (zl l2).length ≤ c2; rw [e2]; exact H2.out.2.1, H2.out.2.2⟩
      · exact ⟨Nat.le_refl _, fun _ => rfl⟩)
  have HG2 := Lib.hid ((Gr.refl [] wa).alloc (Obj.cells #[.slice none 0 0, .slice a2 n2 c2, .slice none 0 0] 23))
  have hcat : catP [((none : Option Addr), 0, []), (a2, c2, zl l2), (none, 0, [])] = zl RL := by
    rw [catP3, HRL.out.1]; simp
  have HCAT := Lib.hid hcat
  have hm1 : m ≤ 1000000 := by rw [HRL.out.2, HRL.out.1]; rw [← HN2.out]; omega
  have HM := Lib.hid (show m = (zl RL).length by rw [zl_len, HRL.out.2])
  clear e2 hcat
  have HS0 : wa.drew.cell? ⟨bx, 0, none⟩ = some (.int .i64 N) ∧ wa.drew.cell? ⟨bx, 1, none⟩ = some (.slice none 0 0) := ⟨k0, k1⟩
  go_region_held3 (fun w' : World => w'.cell? ⟨bx, 0, none⟩ = some (.int .i64 N) ∧ w'.cell? ⟨bx, 1, none⟩ = some (.slice none 0 0)) (first | assumption | go_keep) ((first
    | (go_at_call 110; refine (aconcat_is _ _ m _ _ _ HCAT.out HM.out HCI.out (by simp) hm1).mono ?_; rintro e w5 ⟨ao', cap', rfl, ho, g⟩; have g5 := HG2.out.drew.trans g; have s5 := HB.out _ g5; obtain ⟨t0, t1, f0, f1⟩ := HT.out _ g5; have H5 := Lib.hid (And.intro ho g5); clear ho g g5)))
  go_wp2_with fail
  refine bodyPost_ret (v := .agg #[.int .i64 N, .slice ao' m cap']) (by simp [results, Try.results75, go_sem, *]) rfl ⟨ao', cap', rfl, ?_, ?_, ?_⟩
  · have h0 := own_sl2 H5.out.1
    obtain ⟨g1, g2⟩ := H5.out
    have hb := g1.lt
    refine h0.gr (bs := [bx + 1]) (((Gr.refl _ _).setCell (p := ⟨bx + 1, 0, none⟩) (.inl (by simp)) _).setCell (p := ⟨bx + 1, 1, none⟩) (.inl (by simp)) _) fun k hk e => ?_
    have := (hb k hk).1
    have hw := HLT.out
    simp at e this
    omega
  · exact ((HG.out.trans H5.out.2).setCell (p := ⟨bx + 1, 0, none⟩) (.inr (by rw [HBX.out]; simp)) _).setCell (p := ⟨bx + 1, 1, none⟩) (.inr (by rw [HBX.out]; simp)) _
  · intro k o' hk
    subst hk
    have h1 := (H5.out.1.lt k rfl).1
    have h2 := HG.out.size
    simp at h1
    omega

end Go.Proofs.Ytpkhfdcokcchdaa

/-
  Layer 15: lists of runs, and the blocks that they tell.
-/
namespace Go.Proofs.Ytpkhfdcokcchdaa

/-- The blocks of a run; of a list. -/
def blkR (e : Int × Int) : List Int := (List.range e.2.toNat).map fun (k : Nat) => if e.1 = -1 then (-1 : Int) else e.1 + (k : Int)
def blk (l : List (Int × Int)) : List Int := l.flatMap blkR
/-- Could two runs be one? -/
def mrg (a b : Int × Int) : Bool := if a.1 = -1 ∨ b.1 = -1 then decide (a.1 = b.1) else decide (a.1 + a.2 = b.1)
/-- One run more. -/
def addR (acc : List (Int × Int)) (e : Int × Int) : List (Int × Int) :=
  match acc.getLast? with
  | some p => if mrg p e = true then acc.dropLast ++ [(p.1, p.2 + e.2)] else acc ++ [e]
  | none => [e]
def joinP (l : List (Int × Int)) : List (Int × Int) := l.foldl addR []
def runsP (b : List Int) : List (Int × Int) := joinP (b.map fun x => (x, 1))
/-- No two neighbours could be one. -/
def apartP : List (Int × Int) → Bool
  | [] => true
  | [_] => true
  | a :: b :: r => !mrg a b && apartP (b :: r)
def okR (e : Int × Int) : Prop := -1 ≤ e.1 ∧ 1 ≤ e.2

theorem addR_nil (e : Int × Int) : addR [] e = [e] := rfl
theorem addR_snoc (A : List (Int × Int)) (p e : Int × Int) : addR (A ++ [p]) e = if mrg p e = true then A ++ [(p.1, p.2 + e.2)] else A ++ [p] ++ [e] := by
  unfold addR; simp
theorem mrg_len (p : Int × Int) (a m n : Int) : mrg p (a, m) = mrg p (a, n) := rfl
theorem blkR_len (e : Int × Int) : (blkR e).length = e.2.toNat := by simp [blkR]
theorem blk_append (A B : List (Int × Int)) : blk (A ++ B) = blk A ++ blk B := by simp [blk]
theorem blk_cons (e : Int × Int) (r : List (Int × Int)) : blk (e :: r) = blkR e ++ blk r := by simp [blk]
theorem blk_nil : blk [] = [] := rfl
theorem range_up (n : Nat) : List.range (n + 1) = List.range n ++ [n] := List.range_succ
theorem blkR_up (a : Int) (n : Nat) : blkR (a, (n : Int) + 1) = blkR (a, (n : Int)) ++ [if a = -1 then -1 else a + (n : Int)] := by
  unfold blkR
  simp only
  rw [show ((n : Int) + 1).toNat = n + 1 by omega, show ((n : Int)).toNat = n by omega, range_up, List.map_append]
  rfl
theorem blkR_one (a : Int) : blkR (a, 1) = [a] := by
  have h : blkR (a, 1) = [if a = -1 then -1 else a + 0] := rfl
  rw [h]
  split
  · rename_i h; rw [h]
  · rw [Int.add_zero]
/-- A run's blocks, one by one, are the run. -/
theorem add_blocks (acc : List (Int × Int)) (a : Int) (ha : -1 ≤ a) (n : Nat) : ((blkR (a, (n : Int) + 1)).map fun x => (x, (1 : Int))).foldl addR acc = addR acc (a, (n : Int) + 1) := by
  induction n with
  | zero =>
    rw [show ((0 : Nat) : Int) + 1 = 1 by omega, blkR_one]
    rfl
  | succ n ih =>
    rw [show ((n + 1 : Nat) : Int) + 1 = ((n + 1 : Nat) : Int) + 1 from rfl, blkR_up, List.map_append, List.foldl_append]
    have e1 : ((n + 1 : Nat) : Int) = (n : Int) + 1 := by omega
    rw [e1, ih]
    simp only [List.map_cons, List.map_nil, List.foldl_cons, List.foldl_nil]
    -- the last run ends where the next block is
    have key : ∀ (A : List (Int × Int)) (p : Int × Int), (p.1 = -1 ↔ a = -1) → (a ≠ -1 → p.1 + p.2 = a + ((n : Int) + 1)) → addR (A ++ [p]) (if a = -1 then -1 else a + ((n : Int) + 1), 1) = A ++ [(p.1, p.2 + 1)] := by
      intro A p h1 h2
      rw [addR_snoc, if_pos]
      unfold mrg
      by_cases h : a = -1
      · rw [if_pos (.inl (h1.2 h)), if_pos h]; simp [h1.2 h]
      · rw [if_neg h, if_neg]
        · simp only; rw [h2 h]; simp
        · rintro (q | q)
          · exact h (h1.1 q)
          · simp only at q; omega
    rcases List.eq_nil_or_concat acc with rfl | ⟨A, p, rfl⟩
    · rw [addR_nil, addR_nil]
      exact key [] (a, (n : Int) + 1) Iff.rfl (fun _ => rfl)
    · rw [List.concat_eq_append, addR_snoc, addR_snoc]
      rw [mrg_len p a ((n : Int) + 1 + 1) ((n : Int) + 1)]
      by_cases hm : mrg p (a, (n : Int) + 1) = true
      · rw [if_pos hm, if_pos hm, key]
        · simp only; rw [show p.2 + ((n : Int) + 1) + 1 = p.2 + ((n : Int) + 1 + 1) by omega]
        · unfold mrg at hm
          simp only at hm ⊢
          split at hm
          · have := of_decide_eq_true hm; rw [this]
          · rename_i h; omega
        · intro h
          unfold mrg at hm
          simp only at hm ⊢
          split at hm
          · have := of_decide_eq_true hm; omega
          · have := of_decide_eq_true hm; omega
      · rw [if_neg hm, if_neg hm]
        exact key (A ++ [p]) (a, (n : Int) + 1) Iff.rfl (fun _ => rfl)
theorem add_run (acc : List (Int × Int)) (e : Int × Int) (h : okR e) : ((blkR e).map fun x => (x, (1 : Int))).foldl addR acc = addR acc e := by
  obtain ⟨a, m⟩ := e
  obtain ⟨h1, h2⟩ := h
  simp only at h1 h2
  have : m = ((m - 1).toNat : Int) + 1 := by omega
  rw [this]
  exact add_blocks acc a h1 _
theorem runs_fold (acc : List (Int × Int)) (l : List (Int × Int)) (h : ∀ e ∈ l, okR e) : ((blk l).map fun x => (x, (1 : Int))).foldl addR acc = l.foldl addR acc := by
  induction l generalizing acc with
  | nil => rfl
  | cons e r ih =>
    rw [blk_cons, List.map_append, List.foldl_append, add_run acc e (h e (by simp)), ih _ (fun x hx => h x (by simp [hx]))]
    rfl
/-- Runs joined are the runs of their blocks. -/
theorem runs_blk (l : List (Int × Int)) (h : ∀ e ∈ l, okR e) : runsP (blk l) = joinP l := runs_fold [] l h
theorem fold_apart (A : List (Int × Int)) (p : Int × Int) (r : List (Int × Int)) (h : apartP (p :: r) = true) : r.foldl addR (A ++ [p]) = A ++ [p] ++ r := by
  induction r generalizing A p with
  | nil => simp
  | cons e s ih =>
    unfold apartP at h
    simp only [Bool.and_eq_true, Bool.not_eq_true'] at h
    rw [List.foldl_cons, addR_snoc, if_neg (by rw [h.1]; simp), ih (A ++ [p]) e h.2]
    simp
theorem join_apart (l : List (Int × Int)) (h : apartP l = true) : joinP l = l := by
  cases l with
  | nil => rfl
  | cons e r =>
    unfold joinP
    rw [List.foldl_cons, addR_nil]
    have := fold_apart [] e r h
    simpa using this
/-- What is told of a list: the first k runs may be. -/
def okK (l : List (Int × Int)) (k : Nat) : Prop := (∀ e ∈ l.take k, -1 ≤ e.1 ∧ e.1 ≤ 65536 ∧ 1 ≤ e.2 ∧ e.2 ≤ 65536) ∧ apartP (l.take k) = true
def sumZ : List (Int × Int) → Int
  | [] => 0
  | e :: r => e.2 + sumZ r
theorem sumZ_append (A B : List (Int × Int)) : sumZ (A ++ B) = sumZ A + sumZ B := by
  induction A with
  | nil => simp [sumZ]
  | cons e r ih => simp only [List.cons_append, sumZ, ih]; omega
def Right15 (l : List (Int × Int)) : Prop := l.length ≤ 64 ∧ okK l l.length ∧ sumZ l ≤ 65536
theorem apart_snoc (A : List (Int × Int)) (p e : Int × Int) : apartP (A ++ [p] ++ [e]) = (apartP (A ++ [p]) && !mrg p e) := by
  induction A with
  | nil => simp [apartP]
  | cons x r ih =>
    cases r with
    | nil => simp [apartP]
    | cons y s =>
      simp only [List.cons_append, apartP] at ih ⊢
      rw [ih, Bool.and_assoc]
theorem okK_zero (l : List (Int × Int)) : okK l 0 := ⟨fun e he => by simp at he, by simp [apartP]⟩
theorem okK_one {l : List (Int × Int)} {e : Int × Int} (h : l[0]? = some e) (h1 : -1 ≤ e.1 ∧ e.1 ≤ 65536 ∧ 1 ≤ e.2 ∧ e.2 ≤ 65536) : okK l 1 := by
  obtain ⟨a, b⟩ := List.getElem?_eq_some_iff.1 h
  have : l.take 1 = [e] := by rw [List.take_succ_eq_append_getElem a, b]; rfl
  unfold okK
  rw [this]
  exact ⟨fun x hx => by simp at hx; subst hx; exact h1, rfl⟩
theorem okK_step {l : List (Int × Int)} {k : Nat} {p e : Int × Int} (hp : l[k]? = some p) (he : l[k + 1]? = some e) (h : okK l (k + 1)) (h1 : -1 ≤ e.1 ∧ e.1 ≤ 65536 ∧ 1 ≤ e.2 ∧ e.2 ≤ 65536) : okK l (k + 2) ↔ mrg p e = false := by
  obtain ⟨a, b⟩ := List.getElem?_eq_some_iff.1 he
  obtain ⟨c, d⟩ := List.getElem?_eq_some_iff.1 hp
  have e1 : l.take (k + 1) = l.take k ++ [p] := by rw [List.take_succ_eq_append_getElem c, d]
  have e2 : l.take (k + 2) = l.take k ++ [p] ++ [e] := by rw [List.take_succ_eq_append_getElem a, b, e1]
  have q := h.2
  rw [e1] at q
  unfold okK
  rw [e2, apart_snoc, q, Bool.true_and, Bool.not_eq_true']
  constructor
  · intro z; exact z.2
  · intro z
    refine ⟨fun x hx => ?_, z⟩
    rcases List.mem_append.1 hx with w | w
    · exact h.1 x (by rw [e1]; exact w)
    · simp at w; subst w; exact h1
theorem okK_mono {l : List (Int × Int)} {k : Nat} (h : okK l (k + 1)) : okK l k := by
  refine ⟨fun e he => h.1 e ?_, ?_⟩
  · rw [show k = min k (k + 1) by omega, ← List.take_take] at he
    exact List.mem_of_mem_take he
  · cases k with
    | zero => simp [apartP]
    | succ k =>
      by_cases hk : k + 1 < l.length
      · have e2 : l.take (k + 2) = l.take (k + 1) ++ [l[k + 1]] := List.take_succ_eq_append_getElem hk
        have e1 : l.take (k + 1) = l.take k ++ [l[k]] := List.take_succ_eq_append_getElem (by omega)
        have q := h.2
        rw [e2, e1, apart_snoc, Bool.and_eq_true] at q
        rw [e1]; exact q.1
      · have q := h.2
        rw [List.take_of_length_le (by omega)] at q ⊢
        exact q
theorem okK_le {l : List (Int × Int)} {k j : Nat} (h : okK l k) (hj : j ≤ k) : okK l j := by
  induction k with
  | zero =>
    have : j = 0 := by omega
    subst this
    exact h
  | succ k ih =>
    by_cases e : j = k + 1
    · subst e; exact h
    · exact ih (okK_mono h) (by omega)
theorem okK_all {l : List (Int × Int)} (h : okK l l.length) : (∀ e ∈ l, -1 ≤ e.1 ∧ e.1 ≤ 65536 ∧ 1 ≤ e.2 ∧ e.2 ≤ 65536) ∧ apartP l = true := by
  have := h
  unfold okK at this
  rwa [List.take_length] at this
theorem Right15.runs {l : List (Int × Int)} (h : Right15 l) : runsP (blk l) = l := by
  obtain ⟨h1, h2⟩ := okK_all h.2.1
  rw [runs_blk l (fun e he => ⟨(h1 e he).1, (h1 e he).2.2.1⟩), join_apart l h2]
theorem sumZ_take {l : List (Int × Int)} {k : Nat} {e : Int × Int} (h : l[k]? = some e) : sumZ (l.take (k + 1)) = sumZ (l.take k) + e.2 := by
  obtain ⟨a, b⟩ := List.getElem?_eq_some_iff.1 h
  rw [List.take_succ_eq_append_getElem a, b, sumZ_append]
  simp [sumZ]
theorem sumZ_bound {l : List (Int × Int)} {k : Nat} (h : okK l k) : 0 ≤ sumZ (l.take k) ∧ sumZ (l.take k) ≤ 65536 * k := by
  induction k with
  | zero => simp [sumZ]
  | succ k ih =>
    have h1 := ih (okK_mono h)
    by_cases hk : k < l.length
    · have he := List.getElem?_eq_getElem hk
      rw [sumZ_take he]
      have hm : l[k] ∈ l.take (k + 1) := by rw [List.take_succ_eq_append_getElem hk]; exact List.mem_append.2 (.inr (List.mem_singleton.2 rfl))
      have := h.1 _ hm
      constructor
      · omega
      · have e : (65536 : Int) * ((k + 1 : Nat) : Int) = 65536 * (k : Int) + 65536 := by push_cast; omega
        omega
    · rw [List.take_of_length_le (by omega)] at h1 ⊢
      constructor
      · omega
      · have e : (65536 : Int) * ((k + 1 : Nat) : Int) = 65536 * (k : Int) + 65536 := by push_cast; omega
        omega
theorem blk_len {l : List (Int × Int)} (h : ∀ e ∈ l, 1 ≤ e.2) : ((blk l).length : Int) = sumZ l := by
  induction l with
  | nil => rfl
  | cons e r ih =>
    have h1 := h e (by simp)
    rw [blk_cons, List.length_append, blkR_len, sumZ]
    have := ih (fun x hx => h x (by simp [hx]))
    push_cast
    omega

end Go.Proofs.Ytpkhfdcokcchdaa

/-
  Layer 15: two facts of rows of pairs.
-/
namespace Go.Proofs.Ytpkhfdcokcchdaa
open Go.RowKit

theorem infoP2 : (Try.prog.info? 44).map (fun i => (i.zero, i.size, i.bytes)) = some (some (.agg #[.int .i64 0, .int .i64 0]), 2, 16) := by kernel_rfl
theorem gr_grown {w w' : World} {row : Option Nat} (h : w.grownBy w' row) : Gr row.toList w w' := ⟨h.os, h.tape, h.output, h.size, fun i hi hn => h.block i hi (fun e => hn (by rw [← e]; simp))⟩
theorem cells2_bump (A : List (Int × Int)) (a b c : Int) : (cells2 (A ++ [(a, b)])).set (A.length * 2 + 1) (.int .i64 c) = cells2 (A ++ [(a, c)]) := by
  rw [cells2_append, cells2_append, List.set_append_right _ _ (by rw [cells2_len]; omega), cells2_len, show A.length * 2 + 1 - A.length * 2 = 1 by omega]
  rfl

end Go.Proofs.Ytpkhfdcokcchdaa

/-
  Layer 15: the program's merge, Right, Blocks, Held, spot, Map.
-/
namespace Go.Proofs.Ytpkhfdcokcchdaa
open Go.RowKit

theorem kcall_of {P : Program} {f : FuncId} {args : Array Value} {w : World} {v : Value} (h : Calls P f args w fun e w' => e = .returned v ∧ Gr [] w w') : Calls P f args w fun e w' => e = .returned v ∧ Below w.heap.size w w' :=
  h.mono fun _ _ q => ⟨q.1, q.2.below0⟩
theorem emerge_any (a1 a2 b1 b2 : Int) (w : World) (h : IntKind.i64.wrap (a1 + a2) = a1 + a2) :
    Calls Try.prog 92 #[.agg #[.int .i64 a1, .int .i64 a2], .agg #[.int .i64 b1, .int .i64 b2]] w fun e w' => e = .returned (.bool (mrg (a1, a2) (b1, b2))) ∧ Gr [] w w' := by
  have HG := Lib.hid (((Gr.refl [] w).alloc (Obj.cells #[.int .i64 a1, .int .i64 a2] 35)).alloc (Obj.cells #[.int .i64 b1, .int .i64 b2] 35))
  by_cases h1 : a1 = -1
  · have d1 : (a1 == -1) = true := by simpa using h1
    have HM := Lib.hid (show mrg (a1, a2) (b1, b2) = (a1 == b1) by unfold mrg; rw [if_pos (.inl h1)]; rfl)
    clear h1
    go_enter Try.func92, Try.ntmps92
    go_wp2_with fail
    go_ret
    exact ⟨by rw [HM.out]; rfl, HG.out⟩
  · have d1 : (a1 == -1) = false := by simpa using h1
    by_cases h2 : b1 = -1
    · have d2 : (b1 == -1) = true := by simpa using h2
      have HM := Lib.hid (show mrg (a1, a2) (b1, b2) = (a1 == b1) by unfold mrg; rw [if_pos (.inr h2)]; rfl)
      clear h1 h2
      go_enter Try.func92, Try.ntmps92
      go_wp2_with fail
      go_ret
      exact ⟨by rw [HM.out]; rfl, HG.out⟩
    · have d2 : (b1 == -1) = false := by simpa using h2
      have HM := Lib.hid (show mrg (a1, a2) (b1, b2) = (a1 + a2 == b1) by unfold mrg; rw [if_neg (fun q => q.elim h1 h2)]; rfl)
      clear h1 h2
      go_enter Try.func92, Try.ntmps92
      go_wp2_with fail
      go_ret
      exact ⟨by rw [HM.out]; rfl, HG.out⟩
theorem wrap_over (x : Int) (h1 : 9223372036854775807 < x) (h2 : x ≤ 18446744073709551615) : IntKind.i64.wrap x = x - 18446744073709551616 := by
  simp [IntKind.wrap, IntKind.bits, IntKind.signed]
  omega
/-- The same for runs that begin anywhere: a sum that does not fit joins nothing. -/
theorem emerge_big (a1 a2 b1 b2 : Int) (w : World) (ha : -1 ≤ a1 ∧ a1 ≤ 9223372036854775807) (ha2 : 0 ≤ a2 ∧ a2 ≤ 100000000) (hb : -1 ≤ b1 ∧ b1 ≤ 9223372036854775807) :
    Calls Try.prog 92 #[.agg #[.int .i64 a1, .int .i64 a2], .agg #[.int .i64 b1, .int .i64 b2]] w fun e w' => e = .returned (.bool (mrg (a1, a2) (b1, b2))) ∧ Gr [] w w' := by
  by_cases hov : a1 + a2 ≤ 9223372036854775807
  · exact emerge_any a1 a2 b1 b2 w (IntWalk.i64_in _ (by omega))
  · have HG := Lib.hid (((Gr.refl [] w).alloc (Obj.cells #[.int .i64 a1, .int .i64 a2] 35)).alloc (Obj.cells #[.int .i64 b1, .int .i64 b2] 35))
    have h1 : ¬ a1 = -1 := by omega
    have d1 : (a1 == -1) = false := by simpa using h1
    by_cases h2 : b1 = -1
    · have d2 : (b1 == -1) = true := by simpa using h2
      have HM := Lib.hid (show mrg (a1, a2) (b1, b2) = (a1 == b1) by unfold mrg; rw [if_pos (.inr h2)]; rfl)
      clear h1 h2
      go_enter Try.func92, Try.ntmps92
      go_wp2_with fail
      go_ret
      exact ⟨by rw [HM.out]; rfl, HG.out⟩
    · have d2 : (b1 == -1) = false := by simpa using h2
      obtain ⟨s, hs⟩ : ∃ s, s = a1 + a2 - 18446744073709551616 := ⟨_, rfl⟩
      have hw : IntKind.i64.wrap (a1 + a2) = s := by rw [hs]; exact wrap_over _ (by omega) (by omega)
      have HM := Lib.hid (show mrg (a1, a2) (b1, b2) = (s == b1) by
        unfold mrg
        rw [if_neg (fun q => q.elim h1 h2)]
        simp only
        rw [decide_eq_false (by omega)]
        symm
        simp
        omega)
      clear h1 h2 hs
      go_enter Try.func92, Try.ntmps92
      go_wp2_with fail
      go_ret
      exact ⟨by rw [HM.out]; rfl, HG.out⟩
theorem bad_entry {l : List (Int × Int)} {k : Nat} {e : Int × Int} (h : l[k]? = some e) (hb : ¬ (-1 ≤ e.1 ∧ e.1 ≤ 65536 ∧ 1 ≤ e.2 ∧ e.2 ≤ 65536)) : ¬ Right15 l :=
  fun q => hb ((okK_all q.2.1).1 e (List.mem_of_getElem? h))

set_option maxHeartbeats 4000000 in
set_option maxRecDepth 20000 in
theorem eright_any (l : List (Int × Int)) (L : Nat) (ao : Option Addr) (cap : Nat) (w : World) (h : Rd2 w ao l) (hL : L = l.length) :
    Calls Try.prog 42 #[.slice ao L cap] w fun e w' => (∃ b : Bool, (b = true ↔ Right15 l) ∧ e = .returned (.bool b)) ∧ Gr [] w w' := by
  have HR := Lib.hid h
  have HL := Lib.hid hL
  have HG := Lib.hid (Gr.refl [] w)
  clear h hL
  by_cases h64 : 64 < L
  · have d1 : decide ((64 : Int) < (L : Int)) = true := by simp; omega
    have HF := Lib.hid (show ¬ Right15 l from fun q => by have := q.1; have := HL.out; omega)
    go_enter Try.func42, Try.ntmps42
    go_wp2_with fail
    go_ret
    exact ⟨⟨false, ⟨fun q => by (cases q), fun q => absurd q HF.out⟩, rfl⟩, HG.out⟩
  · have d1 : decide ((64 : Int) < (L : Int)) = false := by simp; omega
    have hL64 : L ≤ 64 := by omega
    go_enter Try.func42, Try.ntmps42
    go_wp2_with fail
    clear d1 h64
    go_loopw [3, 11] (fun s i wr => ∃ k : Nat, k ≤ L ∧ i = .int .i64 k ∧ s = .int .i64 (sumZ (l.take k)) ∧ Hid (okK l k) ∧ Gr [] w wr) (fun _ i _ => L - (intOf i).toNat)
    case atStart => exact ⟨0, by omega, rfl, rfl, Lib.hid (okK_zero l), HG.out⟩
    case round =>
      clear HG
      obtain ⟨k, hk, rfl, rfl, HOK, G⟩ := hrel
      have hsb := sumZ_bound HOK.out
      by_cases hkL : k < L
      · have hkL2 : (k : Int) < (L : Int) := by omega
        obtain ⟨⟨e1, e2⟩, he⟩ : ∃ e, l[k]? = some e := ⟨_, List.getElem?_eq_getElem (by have := HL.out; omega)⟩
        obtain ⟨b, o, hao, hb, x0, x1⟩ := HR.out k _ he
        have y0 : wr.cell? ⟨b, o + k * 2, none⟩ = some (.int .i64 e1) := (G.cell0 hb).trans x0
        have y1 : wr.cell? ⟨b, o + k * 2 + 1, none⟩ = some (.int .i64 e2) := (G.cell0 hb).trans x1
        have HEE := Lib.hid he
        have ga := G.alloc (Obj.cells #[.int .i64 e1, .int .i64 e2] 35)
        have HGA := Lib.hid ga
        have HX := Lib.hid (Holds.new wr #[.int .i64 e1, .int .i64 e2] 35)
        have z0 := HX.out.cell 0
        have z1 := HX.out.cell 1
        obtain ⟨s1, hs1⟩ : ∃ s1, s1 = sumZ (l.take k) := ⟨_, rfl⟩
        rw [← hs1] at hsb ⊢
        have HS1 := Lib.hid hs1
        subst hao
        clear ga x0 x1 G he hs1
        by_cases hbad : -1 ≤ e1 ∧ e1 ≤ 65536 ∧ 1 ≤ e2 ∧ e2 ≤ 65536
        · have d1 : decide (e2 < 1) = false := decide_eq_false (by omega)
          have d2 : decide (65536 < e2) = false := decide_eq_false (by omega)
          have d3 : decide (e1 < -1) = false := decide_eq_false (by omega)
          have d4 : decide (65536 < e1) = false := decide_eq_false (by omega)
          have hsum : sumZ (l.take (k + 1)) = s1 + e2 := by rw [sumZ_take HEE.out, HS1.out]
          have HSUM := Lib.hid hsum
          have HBD := Lib.hid hbad
          have hw : IntKind.i64.wrap (s1 + e2) = s1 + e2 := IntWalk.i64_in _ (by
            have q1 := hsb.1
            have q2 := hsb.2
            have : (65536 : Int) * (k : Int) ≤ 65536 * 64 := by omega
            omega)
          clear hsum
          by_cases hk0 : k = 0
          · subst hk0
            rw [Nat.zero_mul, Nat.add_zero] at y0 y1
            have HOK2 := Lib.hid (okK_one HEE.out HBD.out)
            clear hbad hsb
            go_wp2_with fail
            go_quiet (fail)
            have z1 : ((wr.alloc (Obj.cells #[.int .i64 e1, .int .i64 e2] 35)).drewN nq).cell? ⟨wr.heap.size, 1, none⟩ = some (.int .i64 e2) := (HX.out.gr0 ((Gr.refl [] _).drewN nq)).cell 1
            go_wp2_with fail
            go_roundw
            case rel => exact ⟨1, by omega, rfl, by rw [HSUM.out], HOK2, HGA.out.drewN _⟩
            case measure => simp [intOf]; omega
          · obtain ⟨j, hj⟩ : ∃ j, j + 1 = k := ⟨k - 1, by omega⟩
            obtain ⟨⟨p1, p2⟩, hp⟩ : ∃ p, l[j]? = some p := ⟨_, List.getElem?_eq_getElem (by have := HL.out; omega)⟩
            obtain ⟨b', o', hao', hb', v0, v1⟩ := HR.out j _ hp
            injection hao' with hao'
            injection hao' with q1 q2
            subst q1 q2
            have hpm : -1 ≤ p1 ∧ p1 ≤ 65536 ∧ 1 ≤ p2 ∧ p2 ≤ 65536 := HOK.out.1 (p1, p2) (by
              obtain ⟨c1, c2⟩ := List.getElem?_eq_some_iff.1 hp
              rw [← hj, List.take_succ_eq_append_getElem c1, c2]
              exact List.mem_append.2 (.inr (List.mem_singleton.2 rfl)))
            have hj2 : (k : Int) - 1 = (j : Int) := by omega
            have hk1 : (0 : Int) < (k : Int) := by omega
            have hjL : j < L := by omega
            have dk : decide (0 < k) = true := decide_eq_true (by omega)
            have hj3 : IntKind.i64.wrap (j : Int) = (j : Int) := IntWalk.i64_in _ (by omega)
            have hj4 : (0 : Int) ≤ (j : Int) := by omega
            have hj5 : (j : Int) < (L : Int) := by omega
            have HJ := Lib.hid hj
            have hstep := okK_step hp (by rw [hj]; exact HEE.out) (by rw [hj]; exact HOK.out) HBD.out
            rw [show j + 2 = k + 1 by omega] at hstep
            have HST := Lib.hid hstep
            obtain ⟨m, hm⟩ : ∃ m, m = mrg (p1, p2) (e1, e2) := ⟨_, rfl⟩
            rw [← hm] at HST
            have k0 := kp_cell z0
            have k1 := kp_cell z1
            have u0 := kp_cell ((HGA.out.cell0 hb').trans v0)
            have u1 := kp_cell ((HGA.out.cell0 hb').trans v1)
            have hne := kp_ne (wr.alloc (Obj.cells #[.int .i64 e1, .int .i64 e2] 35))
            have P1 := Lib.hid (fun x : Cls (Kp (wr.alloc (Obj.cells #[.int .i64 e1, .int .i64 e2] 35))) => kcall_of (emerge_any p1 p2 e1 e2 x.w (IntWalk.i64_in _ (by omega))))
            rw [← hm] at P1
            clear hm hj hstep hbad hsb v0 v1 hp hpm
            go_wp2_with fail
            cases m with
            | true =>
              refine wp_region_kp (by kernel_rfl) (by kernel_rfl) ?_
              repeat (go_big_quiet_step ((rename_i x; with_reducible exact kp_call x (P1.out x))))
              with_reducible refine wpQuiet_nil ?_
              rintro _ ⟨y, rfl⟩
              have HGY := Lib.hid (HGA.out.nextB y.h)
              have HNO := Lib.hid (show ¬ Right15 l from fun q => by
                have := HST.out.1 (okK_le q.2.1 (by have := HL.out; omega))
                cases this)
              clear k0 k1 u0 u1 hne P1
              generalize y.w = wy at *
              clear y
              go_wp2_with fail
              go_ret
              exact ⟨⟨false, ⟨fun q => by (cases q), fun q => absurd q HNO.out⟩, rfl⟩, HGY.out⟩
            | false =>
              refine wp_region_kp (by kernel_rfl) (by kernel_rfl) ?_
              repeat (go_big_quiet_step ((rename_i x; with_reducible exact kp_call x (P1.out x))))
              with_reducible refine wpQuiet_nil ?_
              rintro _ ⟨y, rfl⟩
              have HGY := Lib.hid (HGA.out.nextB y.h)
              have z1 := k1 y
              clear k0 k1 u0 u1 hne P1 z0
              generalize y.w = wy at *
              clear y
              go_wp2_with fail
              go_roundw
              case rel => exact ⟨k + 1, by omega, by go_num, by rw [HSUM.out], Lib.hid (HST.out.2 rfl), HGY.out⟩
              case measure => simp [intOf]; omega
        · have HNO := Lib.hid (bad_entry HEE.out hbad)
          have hcase : e2 < 1 ∨ (¬ e2 < 1 ∧ 65536 < e2) ∨ (¬ e2 < 1 ∧ ¬ 65536 < e2 ∧ e1 < -1) ∨ (¬ e2 < 1 ∧ ¬ 65536 < e2 ∧ ¬ e1 < -1 ∧ 65536 < e1) := by omega
          clear hbad hsb
          rcases hcase with q | ⟨q, r⟩ | ⟨q, r, s⟩ | ⟨q, r, s, t⟩
          · have d1 : decide (e2 < 1) = true := decide_eq_true q
            clear q
            go_wp2_with fail
            go_ret
            exact ⟨⟨false, ⟨fun q => by (cases q), fun q => absurd q HNO.out⟩, rfl⟩, HGA.out⟩
          · have d1 : decide (e2 < 1) = false := decide_eq_false q
            have d2 : decide (65536 < e2) = true := decide_eq_true r
            clear q r
            go_wp2_with fail
            go_ret
            exact ⟨⟨false, ⟨fun q => by (cases q), fun q => absurd q HNO.out⟩, rfl⟩, HGA.out⟩
          · have d1 : decide (e2 < 1) = false := decide_eq_false q
            have d2 : decide (65536 < e2) = false := decide_eq_false r
            have d3 : decide (e1 < -1) = true := decide_eq_true s
            clear q r s
            go_wp2_with fail
            go_ret
            exact ⟨⟨false, ⟨fun q => by (cases q), fun q => absurd q HNO.out⟩, rfl⟩, HGA.out⟩
          · have d1 : decide (e2 < 1) = false := decide_eq_false q
            have d2 : decide (65536 < e2) = false := decide_eq_false r
            have d3 : decide (e1 < -1) = false := decide_eq_false s
            have d4 : decide (65536 < e1) = true := decide_eq_true t
            clear q r s t
            go_wp2_with fail
            go_ret
            exact ⟨⟨false, ⟨fun q => by (cases q), fun q => absurd q HNO.out⟩, rfl⟩, HGA.out⟩
      · obtain rfl : k = L := by omega
        have HGL := Lib.hid G
        have ht : l.take k = l := by rw [HL.out]; exact List.take_length
        rw [ht] at hsb ⊢
        have HFIN := Lib.hid (show decide (sumZ l ≤ 65536) = true ↔ Right15 l by
          rw [decide_eq_true_iff]
          exact ⟨fun q => ⟨by have := HL.out; omega, by rw [← HL.out]; exact HOK.out, q⟩, fun q => q.2.2⟩)
        clear hsb ht G
        go_wp2_with fail
        go_ret
        exact ⟨⟨_, HFIN.out, rfl⟩, HGL.out⟩
theorem eright_yes (l : List (Int × Int)) (L : Nat) (ao : Option Addr) (cap : Nat) (w : World) (h : Rd2 w ao l) (hL : L = l.length) (hr : Right15 l) :
    Calls Try.prog 42 #[.slice ao L cap] w fun e w' => e = .returned (.bool true) ∧ Gr [] w w' := by
  refine (eright_any l L ao cap w h hL).mono ?_
  rintro e w' ⟨⟨b, hb, rfl⟩, g⟩
  rw [hb.2 hr]
  exact ⟨rfl, g⟩
theorem eright_no (l : List (Int × Int)) (L : Nat) (ao : Option Addr) (cap : Nat) (w : World) (h : Rd2 w ao l) (hL : L = l.length) (hr : ¬ Right15 l) :
    Calls Try.prog 42 #[.slice ao L cap] w fun e w' => e = .returned (.bool false) ∧ Gr [] w w' := by
  refine (eright_any l L ao cap w h hL).mono ?_
  rintro e w' ⟨⟨b, hb, rfl⟩, g⟩
  cases b with
  | true => exact absurd (hb.1 rfl) hr
  | false => exact ⟨rfl, g⟩

end Go.Proofs.Ytpkhfdcokcchdaa

/-
  Layer 15: the program's Blocks, Held, spot, Map.
-/
namespace Go.Proofs.Ytpkhfdcokcchdaa
open Go.RowKit

/-- How many blocks there are, but for holes. -/
def heldZ : List (Int × Int) → Int
  | [] => 0
  | e :: r => (if e.1 = -1 then 0 else e.2) + heldZ r
theorem heldZ_append (A B : List (Int × Int)) : heldZ (A ++ B) = heldZ A + heldZ B := by
  induction A with
  | nil => simp [heldZ]
  | cons e r ih => simp only [List.cons_append, heldZ, ih]; omega
theorem heldZ_take {l : List (Int × Int)} {k : Nat} {e : Int × Int} (h : l[k]? = some e) : heldZ (l.take (k + 1)) = heldZ (l.take k) + if e.1 = -1 then 0 else e.2 := by
  obtain ⟨a, b⟩ := List.getElem?_eq_some_iff.1 h
  rw [List.take_succ_eq_append_getElem a, b, heldZ_append]
  simp [heldZ]
/-- Each run is of few blocks. -/
def smallP (l : List (Int × Int)) : Prop := l.length ≤ 70 ∧ ∀ e ∈ l, -1 ≤ e.1 ∧ e.1 ≤ 1000000 ∧ 1 ≤ e.2 ∧ e.2 ≤ 65536
theorem Right15.small {l : List (Int × Int)} (h : Right15 l) : smallP l := ⟨by have := h.1; omega, fun e he => by have := (okK_all h.2.1).1 e he; omega⟩
theorem small_sum {l : List (Int × Int)} (h : ∀ e ∈ l, 1 ≤ e.2 ∧ e.2 ≤ 65536) (k : Nat) : 0 ≤ sumZ (l.take k) ∧ sumZ (l.take k) ≤ 65536 * k ∧ 0 ≤ heldZ (l.take k) ∧ heldZ (l.take k) ≤ 65536 * k := by
  induction k with
  | zero => simp [sumZ, heldZ]
  | succ k ih =>
    have e3 : (65536 : Int) * ((k + 1 : Nat) : Int) = 65536 * (k : Int) + 65536 := by push_cast; omega
    by_cases hk : k < l.length
    · have he := List.getElem?_eq_getElem hk
      have hm := h _ (List.mem_of_getElem? he)
      rw [sumZ_take he, heldZ_take he, e3]
      split <;> omega
    · rw [List.take_of_length_le (by omega)] at ih ⊢
      omega

set_option maxHeartbeats 1000000 in
theorem eblocks_any (l : List (Int × Int)) (L : Nat) (s : Int) (ao : Option Addr) (cap : Nat) (w : World) (h : Rd2 w ao l) (hL : L = l.length) (hs : smallP l) (hS : s = sumZ l) :
    Calls Try.prog 46 #[.slice ao L cap] w fun e w' => e = .returned (.int .i64 s) ∧ Gr [] w w' := by
  subst hS
  have HR := Lib.hid h
  have HL := Lib.hid hL
  have HG := Lib.hid (Gr.refl [] w)
  have HS := Lib.hid hs
  have hL70 : L ≤ 70 := by have := hs.1; omega
  clear h hL hs
  go_enter Try.func46, Try.ntmps46
  go_wp2_with fail
  go_loopw [3, 8] (fun s i wr => ∃ k : Nat, k ≤ L ∧ i = .int .i64 k ∧ s = .int .i64 (sumZ (l.take k)) ∧ Gr [] w wr) (fun _ i _ => L - (intOf i).toNat)
  case atStart => exact ⟨0, by omega, rfl, rfl, HG.out⟩
  case round =>
    clear HG
    obtain ⟨k, hk, rfl, rfl, G⟩ := hrel
    have hsb := small_sum (fun e he => ⟨(HS.out.2 e he).2.2.1, (HS.out.2 e he).2.2.2⟩) k
    by_cases hkL : k < L
    · have hkL2 : (k : Int) < (L : Int) := by omega
      obtain ⟨⟨e1, e2⟩, he⟩ : ∃ e, l[k]? = some e := ⟨_, List.getElem?_eq_getElem (by have := HL.out; omega)⟩
      obtain ⟨b, o, hao, hb, x0, x1⟩ := HR.out k _ he
      have y0 : wr.cell? ⟨b, o + k * 2, none⟩ = some (.int .i64 e1) := (G.cell0 hb).trans x0
      have y1 : wr.cell? ⟨b, o + k * 2 + 1, none⟩ = some (.int .i64 e2) := (G.cell0 hb).trans x1
      have hm := HS.out.2 _ (List.mem_of_getElem? he)
      have HST := Lib.hid (sumZ_take he)
      have HGA := Lib.hid (G.alloc (Obj.cells #[.int .i64 e1, .int .i64 e2] 35))
      have z1 := (Holds.new wr #[.int .i64 e1, .int .i64 e2] 35).cell 1
      obtain ⟨s1, hs1⟩ : ∃ s1, s1 = sumZ (l.take k) := ⟨_, rfl⟩
      rw [← hs1] at hsb HST ⊢
      have hw : IntKind.i64.wrap (s1 + e2) = s1 + e2 := IntWalk.i64_in _ (by simp only at hm; omega)
      subst hao
      clear x0 x1 G he hs1 hsb hm
      go_wp2_with fail
      go_roundw
      case rel => exact ⟨k + 1, by omega, by go_num, by rw [HST.out], HGA.out⟩
      case measure => simp [intOf]; omega
    · obtain rfl : k = L := by omega
      have HGL := Lib.hid G
      have ht : l.take k = l := by rw [HL.out]; exact List.take_length
      rw [ht] at hsb ⊢
      clear hsb ht G
      go_wp2_with fail
      go_ret
      exact ⟨rfl, HGL.out⟩
set_option maxHeartbeats 1000000 in
theorem eheld_any (l : List (Int × Int)) (L : Nat) (s : Int) (ao : Option Addr) (cap : Nat) (w : World) (h : Rd2 w ao l) (hL : L = l.length) (hs : smallP l) (hS : s = heldZ l) :
    Calls Try.prog 50 #[.slice ao L cap] w fun e w' => e = .returned (.int .i64 s) ∧ Gr [] w w' := by
  subst hS
  have HR := Lib.hid h
  have HL := Lib.hid hL
  have HG := Lib.hid (Gr.refl [] w)
  have HS := Lib.hid hs
  have hL70 : L ≤ 70 := by have := hs.1; omega
  clear h hL hs
  go_enter Try.func50, Try.ntmps50
  go_wp2_with fail
  go_loopw [3, 8] (fun s i wr => ∃ k : Nat, k ≤ L ∧ i = .int .i64 k ∧ s = .int .i64 (heldZ (l.take k)) ∧ Gr [] w wr) (fun _ i _ => L - (intOf i).toNat)
  case atStart => exact ⟨0, by omega, rfl, rfl, HG.out⟩
  case round =>
    clear HG
    obtain ⟨k, hk, rfl, rfl, G⟩ := hrel
    have hsb := small_sum (fun e he => ⟨(HS.out.2 e he).2.2.1, (HS.out.2 e he).2.2.2⟩) k
    by_cases hkL : k < L
    · have hkL2 : (k : Int) < (L : Int) := by omega
      obtain ⟨⟨e1, e2⟩, he⟩ : ∃ e, l[k]? = some e := ⟨_, List.getElem?_eq_getElem (by have := HL.out; omega)⟩
      obtain ⟨b, o, hao, hb, x0, x1⟩ := HR.out k _ he
      have y0 : wr.cell? ⟨b, o + k * 2, none⟩ = some (.int .i64 e1) := (G.cell0 hb).trans x0
      have y1 : wr.cell? ⟨b, o + k * 2 + 1, none⟩ = some (.int .i64 e2) := (G.cell0 hb).trans x1
      have hm := HS.out.2 _ (List.mem_of_getElem? he)
      have hst := heldZ_take he
      have HGA := Lib.hid (G.alloc (Obj.cells #[.int .i64 e1, .int .i64 e2] 35))
      have z0 := (Holds.new wr #[.int .i64 e1, .int .i64 e2] 35).cell 0
      have z1 := (Holds.new wr #[.int .i64 e1, .int .i64 e2] 35).cell 1
      obtain ⟨s1, hs1⟩ : ∃ s1, s1 = heldZ (l.take k) := ⟨_, rfl⟩
      rw [← hs1] at hsb hst ⊢
      have hw : IntKind.i64.wrap (s1 + e2) = s1 + e2 := IntWalk.i64_in _ (by simp only at hm; omega)
      subst hao
      clear x0 x1 G he hs1 hsb hm
      by_cases hh : e1 = -1
      · have d1 : (e1 != -1) = false := by simp [hh]
        rw [if_pos hh, Int.add_zero] at hst
        have HST := Lib.hid hst
        clear hh hst
        go_wp2_with fail
        go_roundw
        case rel => exact ⟨k + 1, by omega, by go_num, by rw [HST.out], HGA.out⟩
        case measure => simp [intOf]; omega
      · have d1 : (e1 != -1) = true := by simp [hh]
        rw [if_neg hh] at hst
        have HST := Lib.hid hst
        clear hh hst
        go_wp2_with fail
        go_roundw
        case rel => exact ⟨k + 1, by omega, by go_num, by rw [HST.out], HGA.out⟩
        case measure => simp [intOf]; omega
    · obtain rfl : k = L := by omega
      have HGL := Lib.hid G
      have ht : l.take k = l := by rw [HL.out]; exact List.take_length
      rw [ht] at hsb ⊢
      clear hsb ht G
      go_wp2_with fail
      go_ret
      exact ⟨rfl, HGL.out⟩
def spotP (e : Int × Int) (i : Int) : Int := if e.1 = -1 then -1 else e.1 + i
theorem espot_any (e1 e2 i : Int) (w : World) (h : IntKind.i64.wrap (e1 + i) = e1 + i) :
    Calls Try.prog 98 #[.agg #[.int .i64 e1, .int .i64 e2], .int .i64 i] w fun e w' => e = .returned (.int .i64 (spotP (e1, e2) i)) ∧ Gr [] w w' := by
  have HG := Lib.hid ((Gr.refl [] w).alloc (Obj.cells #[.int .i64 e1, .int .i64 e2] 35))
  by_cases hh : e1 = -1
  · have d1 : (e1 == -1) = true := by simp [hh]
    have HS := Lib.hid (show spotP (e1, e2) i = -1 from if_pos hh)
    clear hh
    go_enter Try.func98, Try.ntmps98
    go_wp2_with fail
    go_ret
    exact ⟨by rw [HS.out]; rfl, HG.out⟩
  · have d1 : (e1 == -1) = false := by simp [hh]
    have HS := Lib.hid (show spotP (e1, e2) i = e1 + i from if_neg hh)
    clear hh
    go_enter Try.func98, Try.ntmps98
    go_wp2_with fail
    go_ret
    exact ⟨by rw [HS.out]; rfl, HG.out⟩
theorem blkR_get (e : Int × Int) (j : Nat) (h : (j : Int) < e.2) : (blkR e)[j]? = some (spotP e j) := by
  unfold blkR spotP
  rw [List.getElem?_map, List.getElem?_range (by omega)]
  rfl
theorem blk_at {l : List (Int × Int)} {k : Nat} {e : Int × Int} (h : l[k]? = some e) : blk (l.drop k) = blkR e ++ blk (l.drop (k + 1)) := by
  obtain ⟨a, b⟩ := List.getElem?_eq_some_iff.1 h
  rw [List.drop_eq_getElem_cons a, b, blk_cons]

set_option maxHeartbeats 1000000 in
theorem emap_neg (_l : List (Int × Int)) (L : Nat) (i : Int) (ao : Option Addr) (cap : Nat) (w : World) (hi : i < 0) :
    Calls Try.prog 48 #[.slice ao L cap, .int .i64 i] w fun e w' => e = .returned (.tuple #[.int .i64 0, .bool false]) ∧ Gr [] w w' := by
  have HG := Lib.hid (Gr.refl [] w)
  have d1 : decide (i < 0) = true := decide_eq_true hi
  clear hi
  go_enter Try.func48, Try.ntmps48
  go_wp2_with fail
  exact bodyPost_ret (v := .tuple #[.int .i64 0, .bool false]) (by simp [results, Try.results48, go_sem]) rfl ⟨rfl, HG.out⟩
set_option maxHeartbeats 2000000 in
theorem emap_any (l : List (Int × Int)) (L i : Nat) (ao : Option Addr) (cap : Nat) (w : World) (h : Rd2 w ao l) (hL : L = l.length) (hs : smallP l) (hi : i < 9223372036854775808) :
    Calls Try.prog 48 #[.slice ao L cap, .int .i64 i] w fun e w' => Gr [] w w' ∧ ((∃ x, (blk l)[i]? = some x ∧ e = .returned (.tuple #[.int .i64 x, .bool true])) ∨ (blk l)[i]? = none ∧ e = .returned (.tuple #[.int .i64 0, .bool false])) := by
  have HR := Lib.hid h
  have HL := Lib.hid hL
  have HG := Lib.hid (Gr.refl [] w)
  have HS := Lib.hid hs
  have hL70 : L ≤ 70 := by have := hs.1; omega
  have d1 : decide ((i : Int) < 0) = false := decide_eq_false (by omega)
  clear h hL hs
  go_enter Try.func48, Try.ntmps48
  go_wp2_with fail
  clear d1
  go_loopw [1, 12] (fun iv q wr => ∃ k j : Nat, k ≤ L ∧ q = .int .i64 k ∧ iv = .int .i64 j ∧ j ≤ i ∧ Hid ((blk l)[i]? = (blk (l.drop k))[j]?) ∧ Gr [] w wr) (fun _ q _ => L - (intOf q).toNat)
  case atStart => exact ⟨0, i, by omega, rfl, rfl, Nat.le_refl _, Lib.hid rfl, HG.out⟩
  case round =>
    clear HG
    obtain ⟨k, j, hk, rfl, rfl, hji, HB, G⟩ := hrel
    by_cases hkL : k < L
    · have hkL2 : (k : Int) < (L : Int) := by omega
      obtain ⟨⟨e1, e2⟩, he⟩ : ∃ e, l[k]? = some e := ⟨_, List.getElem?_eq_getElem (by have := HL.out; omega)⟩
      obtain ⟨b, o, hao, hb, x0, x1⟩ := HR.out k _ he
      have y0 : wr.cell? ⟨b, o + k * 2, none⟩ = some (.int .i64 e1) := (G.cell0 hb).trans x0
      have y1 : wr.cell? ⟨b, o + k * 2 + 1, none⟩ = some (.int .i64 e2) := (G.cell0 hb).trans x1
      have hm := HS.out.2 _ (List.mem_of_getElem? he)
      simp only at hm
      have HAT := Lib.hid (blk_at he)
      have HGA := Lib.hid (G.alloc (Obj.cells #[.int .i64 e1, .int .i64 e2] 35))
      have z0 := (Holds.new wr #[.int .i64 e1, .int .i64 e2] 35).cell 0
      have z1 := (Holds.new wr #[.int .i64 e1, .int .i64 e2] 35).cell 1
      subst hao
      clear x0 x1 G he
      by_cases hje : (j : Int) < e2
      · have d1 : decide ((j : Int) < e2) = true := decide_eq_true hje
        have HFD := Lib.hid (show (blk l)[i]? = some (spotP (e1, e2) j) by
          rw [HB.out, HAT.out, List.getElem?_append_left (by rw [blkR_len]; simp only; omega), blkR_get _ _ (by simpa using hje)])
        have HW := Lib.hid (IntWalk.i64_in (e1 + (j : Int)) (by omega))
        clear hje hm
        go_wp2_with fail
        refine (espot_any e1 e2 j _ HW.out).mono ?_
        rintro e w5 ⟨rfl, g5⟩
        have H5 := Lib.hid (HGA.out.next0 g5)
        clear g5
        go_wp2_with fail
        exact bodyPost_ret (v := .tuple #[.int .i64 (spotP (e1, e2) j), .bool true]) (by simp [results, Try.results48, go_sem]) rfl ⟨H5.out, .inl ⟨_, HFD.out, rfl⟩⟩
      · have d1 : decide ((j : Int) < e2) = false := decide_eq_false hje
        obtain ⟨j2, hj2⟩ : ∃ j2 : Nat, (j : Int) - e2 = (j2 : Int) := ⟨((j : Int) - e2).toNat, by omega⟩
        have hj3 : IntKind.i64.wrap ((j2 : Int)) = (j2 : Int) := IntWalk.i64_in _ (by omega)
        have hj4 : j2 ≤ i := by omega
        have HFD := Lib.hid (show (blk l)[i]? = (blk (l.drop (k + 1)))[j2]? by
          rw [HB.out, HAT.out, List.getElem?_append_right (by rw [blkR_len]; simp only; omega), blkR_len]
          congr 1
          simp only
          omega)
        clear hje hm
        go_wp2_with fail
        go_roundw
        case rel => exact ⟨k + 1, j2, by omega, by go_num, rfl, hj4, HFD, HGA.out⟩
        case measure => simp [intOf]; omega
    · obtain rfl : k = L := by omega
      have HGL := Lib.hid G
      have HNO := Lib.hid (show (blk l)[i]? = none by rw [HB.out, HL.out, List.drop_length]; simp [blk])
      clear G
      go_wp2_with fail
      exact bodyPost_ret (v := .tuple #[.int .i64 0, .bool false]) (by simp [results, Try.results48, go_sem]) rfl ⟨HGL.out, .inr ⟨HNO.out, rfl⟩⟩

end Go.Proofs.Ytpkhfdcokcchdaa

/-
  Layer 15: the document's answer: joins, Right, Blocks, Runs.
-/
namespace Go.Proofs.Ytpkhfdcokcchdaa
open Go.RowKit

theorem rjoins_any (a1 a2 b1 b2 : Int) (w : World) (h : IntKind.i64.wrap (a1 + a2) = a1 + a2) :
    Calls Try.prog 93 #[.agg #[.int .i64 a1, .int .i64 a2], .agg #[.int .i64 b1, .int .i64 b2]] w fun e w' => e = .returned (.bool (mrg (a1, a2) (b1, b2))) ∧ Gr [] w w' := by
  have HG := Lib.hid (((Gr.refl [] w).alloc (Obj.cells #[.int .i64 a1, .int .i64 a2] 44)).alloc (Obj.cells #[.int .i64 b1, .int .i64 b2] 44))
  by_cases h1 : a1 = -1
  · have d1 : (a1 == -1) = true := by simpa using h1
    by_cases h2 : b1 = -1
    · have d2 : (b1 == -1) = true := by simpa using h2
      have HM := Lib.hid (show mrg (a1, a2) (b1, b2) = true by unfold mrg; rw [if_pos (.inl h1)]; simp [h1, h2])
      clear h1 h2
      go_enter Try.func93, Try.ntmps93
      go_wp2_with fail
      go_ret
      exact ⟨by rw [HM.out]; rfl, HG.out⟩
    · have d2 : (b1 == -1) = false := by simpa using h2
      have HM := Lib.hid (show mrg (a1, a2) (b1, b2) = false by unfold mrg; rw [if_pos (.inl h1)]; simp [h1]; omega)
      clear h1 h2
      go_enter Try.func93, Try.ntmps93
      go_wp2_with fail
      go_ret
      exact ⟨by rw [HM.out]; rfl, HG.out⟩
  · have d1 : (a1 == -1) = false := by simpa using h1
    by_cases h2 : b1 = -1
    · have d2 : (b1 == -1) = true := by simpa using h2
      have HM := Lib.hid (show mrg (a1, a2) (b1, b2) = false by unfold mrg; rw [if_pos (.inr h2)]; simp [h2]; omega)
      clear h1 h2
      go_enter Try.func93, Try.ntmps93
      go_wp2_with fail
      go_ret
      exact ⟨by rw [HM.out]; rfl, HG.out⟩
    · have d2 : (b1 == -1) = false := by simpa using h2
      have HM := Lib.hid (show mrg (a1, a2) (b1, b2) = (a1 + a2 == b1) by unfold mrg; rw [if_neg (fun q => q.elim h1 h2)]; rfl)
      clear h1 h2
      go_enter Try.func93, Try.ntmps93
      go_wp2_with fail
      go_ret
      exact ⟨by rw [HM.out]; rfl, HG.out⟩

set_option maxHeartbeats 4000000 in
set_option maxRecDepth 20000 in
theorem rright15_any (l : List (Int × Int)) (L : Nat) (ao : Option Addr) (cap : Nat) (w : World) (h : Rd2 w ao l) (hL : L = l.length) :
    Calls Try.prog 43 #[.slice ao L cap] w fun e w' => (∃ b : Bool, (b = true ↔ Right15 l) ∧ e = .returned (.bool b)) ∧ Gr [] w w' := by
  have HR := Lib.hid h
  have HL := Lib.hid hL
  have HG := Lib.hid (Gr.refl [] w)
  clear h hL
  by_cases h64 : 64 < L
  · have d1 : decide ((64 : Int) < (L : Int)) = true := by simp; omega
    have HF := Lib.hid (show ¬ Right15 l from fun q => by have := q.1; have := HL.out; omega)
    go_enter Try.func43, Try.ntmps43
    go_wp2_with fail
    go_ret
    exact ⟨⟨false, ⟨fun q => by (cases q), fun q => absurd q HF.out⟩, rfl⟩, HG.out⟩
  · have d1 : decide ((64 : Int) < (L : Int)) = false := by simp; omega
    have hL64 : L ≤ 64 := by omega
    go_enter Try.func43, Try.ntmps43
    go_wp2_with fail
    clear d1 h64
    go_loopw [3, 4] (fun s i wr => ∃ k : Nat, k ≤ L ∧ i = .int .i64 k ∧ s = .int .i64 (sumZ (l.take k)) ∧ Hid (okK l k) ∧ Gr [] w wr) (fun _ i _ => L - (intOf i).toNat)
    case atStart => exact ⟨0, by omega, rfl, rfl, Lib.hid (okK_zero l), HG.out⟩
    case round =>
      clear HG
      obtain ⟨k, hk, rfl, rfl, HOK, G⟩ := hrel
      have hsb := sumZ_bound HOK.out
      by_cases hkL : k < L
      · have hkL2 : (k : Int) < (L : Int) := by omega
        obtain ⟨⟨e1, e2⟩, he⟩ : ∃ e, l[k]? = some e := ⟨_, List.getElem?_eq_getElem (by have := HL.out; omega)⟩
        obtain ⟨b, o, hao, hb, x0, x1⟩ := HR.out k _ he
        have y0 : wr.cell? ⟨b, o + k * 2, none⟩ = some (.int .i64 e1) := (G.cell0 hb).trans x0
        have y1 : wr.cell? ⟨b, o + k * 2 + 1, none⟩ = some (.int .i64 e2) := (G.cell0 hb).trans x1
        have HEE := Lib.hid he
        have HGA := Lib.hid G
        obtain ⟨s1, hs1⟩ : ∃ s1, s1 = sumZ (l.take k) := ⟨_, rfl⟩
        rw [← hs1] at hsb ⊢
        have HS1 := Lib.hid hs1
        subst hao
        clear x0 x1 G he hs1
        by_cases hbad : -1 ≤ e1 ∧ e1 ≤ 65536 ∧ 1 ≤ e2 ∧ e2 ≤ 65536
        · have d1 : decide (e2 < 1) = false := decide_eq_false (by omega)
          have d2 : decide (65536 < e2) = false := decide_eq_false (by omega)
          have d3 : decide (e1 < -1) = false := decide_eq_false (by omega)
          have d4 : decide (65536 < e1) = false := decide_eq_false (by omega)
          have hsum : sumZ (l.take (k + 1)) = s1 + e2 := by rw [sumZ_take HEE.out, HS1.out]
          have HSUM := Lib.hid hsum
          have HBD := Lib.hid hbad
          have hw : IntKind.i64.wrap (s1 + e2) = s1 + e2 := IntWalk.i64_in _ (by
            have q1 := hsb.1
            have q2 := hsb.2
            have : (65536 : Int) * (k : Int) ≤ 65536 * 64 := by omega
            omega)
          clear hsum
          by_cases hk0 : k = 0
          · subst hk0
            rw [Nat.zero_mul, Nat.add_zero] at y0 y1
            have HOK2 := Lib.hid (okK_one HEE.out HBD.out)
            clear hbad hsb
            go_wp2_with fail
            go_roundw
            case rel => exact ⟨1, by omega, rfl, by rw [HSUM.out], HOK2, HGA.out⟩
            case measure => simp [intOf]; omega
          · obtain ⟨j, hj⟩ : ∃ j, j + 1 = k := ⟨k - 1, by omega⟩
            obtain ⟨⟨p1, p2⟩, hp⟩ : ∃ p, l[j]? = some p := ⟨_, List.getElem?_eq_getElem (by have := HL.out; omega)⟩
            obtain ⟨b', o', hao', hb', v0, v1⟩ := HR.out j _ hp
            injection hao' with hao'
            injection hao' with q1 q2
            subst q1 q2
            have hpm : -1 ≤ p1 ∧ p1 ≤ 65536 ∧ 1 ≤ p2 ∧ p2 ≤ 65536 := HOK.out.1 (p1, p2) (by
              obtain ⟨c1, c2⟩ := List.getElem?_eq_some_iff.1 hp
              rw [← hj, List.take_succ_eq_append_getElem c1, c2]
              exact List.mem_append.2 (.inr (List.mem_singleton.2 rfl)))
            have hj2 : (k : Int) - 1 = (j : Int) := by omega
            have hk1 : (0 : Int) < (k : Int) := by omega
            have hjL : j < L := by omega
            have dk : decide (0 < k) = true := decide_eq_true (by omega)
            have hj3 : IntKind.i64.wrap (j : Int) = (j : Int) := IntWalk.i64_in _ (by omega)
            have hj4 : (0 : Int) ≤ (j : Int) := by omega
            have hj5 : (j : Int) < (L : Int) := by omega
            have hk6 : (0 : Int) ≤ (k : Int) := by omega
            have HJ := Lib.hid hj
            have hstep := okK_step hp (by rw [hj]; exact HEE.out) (by rw [hj]; exact HOK.out) HBD.out
            rw [show j + 2 = k + 1 by omega] at hstep
            have HST := Lib.hid hstep
            obtain ⟨m, hm⟩ : ∃ m, m = mrg (p1, p2) (e1, e2) := ⟨_, rfl⟩
            rw [← hm] at HST
            have u0 := kp_cell ((HGA.out.cell0 hb').trans v0)
            have u1 := kp_cell ((HGA.out.cell0 hb').trans v1)
            have k0 := kp_cell y0
            have k1 := kp_cell y1
            have hne := kp_ne wr
            have P1 := Lib.hid (fun x : Cls (Kp wr) => kcall_of (rjoins_any p1 p2 e1 e2 x.w (IntWalk.i64_in _ (by omega))))
            rw [← hm] at P1
            clear hm hj hstep hbad hsb v0 v1 hp hpm
            go_wp2_with fail
            cases m with
            | true =>
              refine wp_region_kp (by kernel_rfl) (by kernel_rfl) ?_
              repeat (go_big_quiet_step ((rename_i x; with_reducible exact kp_call x (P1.out x))))
              with_reducible refine wpQuiet_nil ?_
              rintro _ ⟨y, rfl⟩
              have HGY := Lib.hid (HGA.out.nextB y.h)
              have HNO := Lib.hid (show ¬ Right15 l from fun q => by
                have := HST.out.1 (okK_le q.2.1 (by have := HL.out; omega))
                cases this)
              clear k0 k1 u0 u1 hne P1
              generalize y.w = wy at *
              clear y
              go_wp2_with fail
              go_ret
              exact ⟨⟨false, ⟨fun q => by (cases q), fun q => absurd q HNO.out⟩, rfl⟩, HGY.out⟩
            | false =>
              refine wp_region_kp (by kernel_rfl) (by kernel_rfl) ?_
              repeat (go_big_quiet_step ((rename_i x; with_reducible exact kp_call x (P1.out x))))
              with_reducible refine wpQuiet_nil ?_
              rintro _ ⟨y, rfl⟩
              have HGY := Lib.hid (HGA.out.nextB y.h)
              have y1 := k1 y
              clear k0 k1 u0 u1 hne P1 y0
              generalize y.w = wy at *
              clear y
              go_wp2_with fail
              go_roundw
              case rel => exact ⟨k + 1, by omega, by go_num, by rw [HSUM.out], Lib.hid (HST.out.2 rfl), HGY.out⟩
              case measure => simp [intOf]; omega
        · have HNO := Lib.hid (bad_entry HEE.out hbad)
          have hcase : e1 < -1 ∨ (¬ e1 < -1 ∧ 65536 < e1) ∨ (¬ e1 < -1 ∧ ¬ 65536 < e1 ∧ e2 < 1) ∨ (¬ e1 < -1 ∧ ¬ 65536 < e1 ∧ ¬ e2 < 1 ∧ 65536 < e2) := by omega
          clear hbad hsb
          rcases hcase with q | ⟨q, r⟩ | ⟨q, r, s⟩ | ⟨q, r, s, t⟩
          · have d1 : decide (e1 < -1) = true := decide_eq_true q
            clear q
            go_wp2_with fail
            go_ret
            exact ⟨⟨false, ⟨fun q => by (cases q), fun q => absurd q HNO.out⟩, rfl⟩, HGA.out⟩
          · have d1 : decide (e1 < -1) = false := decide_eq_false q
            have d2 : decide (65536 < e1) = true := decide_eq_true r
            clear q r
            go_wp2_with fail
            go_ret
            exact ⟨⟨false, ⟨fun q => by (cases q), fun q => absurd q HNO.out⟩, rfl⟩, HGA.out⟩
          · have d1 : decide (e1 < -1) = false := decide_eq_false q
            have d2 : decide (65536 < e1) = false := decide_eq_false r
            have d3 : decide (e2 < 1) = true := decide_eq_true s
            clear q r s
            go_wp2_with fail
            go_ret
            exact ⟨⟨false, ⟨fun q => by (cases q), fun q => absurd q HNO.out⟩, rfl⟩, HGA.out⟩
          · have d1 : decide (e1 < -1) = false := decide_eq_false q
            have d2 : decide (65536 < e1) = false := decide_eq_false r
            have d3 : decide (e2 < 1) = false := decide_eq_false s
            have d4 : decide (65536 < e2) = true := decide_eq_true t
            clear q r s t
            go_wp2_with fail
            go_ret
            exact ⟨⟨false, ⟨fun q => by (cases q), fun q => absurd q HNO.out⟩, rfl⟩, HGA.out⟩
      · obtain rfl : k = L := by omega
        have HGL := Lib.hid G
        have ht : l.take k = l := by rw [HL.out]; exact List.take_length
        rw [ht] at hsb ⊢
        have HFIN := Lib.hid (show decide (sumZ l ≤ 65536) = true ↔ Right15 l by
          rw [decide_eq_true_iff]
          exact ⟨fun q => ⟨by have := HL.out; omega, by rw [← HL.out]; exact HOK.out, q⟩, fun q => q.2.2⟩)
        clear hsb ht G
        go_wp2_with fail
        go_ret
        exact ⟨⟨_, HFIN.out, rfl⟩, HGL.out⟩
theorem rright15_yes (l : List (Int × Int)) (L : Nat) (ao : Option Addr) (cap : Nat) (w : World) (h : Rd2 w ao l) (hL : L = l.length) (hr : Right15 l) :
    Calls Try.prog 43 #[.slice ao L cap] w fun e w' => e = .returned (.bool true) ∧ Gr [] w w' := by
  refine (rright15_any l L ao cap w h hL).mono ?_
  rintro e w' ⟨⟨b, hb, rfl⟩, g⟩
  rw [hb.2 hr]
  exact ⟨rfl, g⟩
theorem rright15_no (l : List (Int × Int)) (L : Nat) (ao : Option Addr) (cap : Nat) (w : World) (h : Rd2 w ao l) (hL : L = l.length) (hr : ¬ Right15 l) :
    Calls Try.prog 43 #[.slice ao L cap] w fun e w' => e = .returned (.bool false) ∧ Gr [] w w' := by
  refine (rright15_any l L ao cap w h hL).mono ?_
  rintro e w' ⟨⟨b, hb, rfl⟩, g⟩
  cases b with
  | true => exact absurd (hb.1 rfl) hr
  | false => exact ⟨rfl, g⟩

end Go.Proofs.Ytpkhfdcokcchdaa

/-
  Layer 15: the document's answer: Runs, Blocks.
-/
namespace Go.Proofs.Ytpkhfdcokcchdaa
open Go.RowKit

theorem runsP_snoc (b : List Int) (x : Int) : runsP (b ++ [x]) = addR (runsP b) (x, 1) := by
  unfold runsP joinP
  rw [List.map_append, List.foldl_append]
  rfl
theorem runsP_take {b : List Int} {k : Nat} {x : Int} (h : b[k]? = some x) : runsP (b.take (k + 1)) = addR (runsP (b.take k)) (x, 1) := by
  obtain ⟨h1, h2⟩ := List.getElem?_eq_some_iff.1 h
  rw [List.take_succ_eq_append_getElem h1, h2, runsP_snoc]
theorem runs_take_ok {b : List Int} {B : Int} (hb : ∀ x ∈ b, -1 ≤ x ∧ x ≤ B) (k : Nat) (hk : k ≤ b.length) : (∀ p ∈ runsP (b.take k), -1 ≤ p.1 ∧ p.1 ≤ B ∧ 1 ≤ p.2) ∧ sumZ (runsP (b.take k)) = k := by
  induction k with
  | zero => simp [runsP, joinP, sumZ]
  | succ k ih =>
    obtain ⟨i1, i2⟩ := ih (by omega)
    have hx := List.getElem?_eq_getElem (show k < b.length by omega)
    have hbx := hb _ (List.mem_of_getElem? hx)
    rw [runsP_take hx]
    rcases List.eq_nil_or_concat (runsP (b.take k)) with h | ⟨A, p, h⟩
    · rw [h] at i1 i2 ⊢
      rw [addR_nil]
      simp only [sumZ] at i2 ⊢
      exact ⟨fun q hq => by simp at hq; subst hq; exact ⟨hbx.1, hbx.2, by simp⟩, by simp; omega⟩
    · rw [List.concat_eq_append] at h
      rw [h] at i1 i2 ⊢
      rw [addR_snoc]
      rw [sumZ_append] at i2
      simp only [sumZ] at i2
      have hp := i1 p (by simp)
      split
      · refine ⟨fun q hq => ?_, ?_⟩
        · rcases List.mem_append.1 hq with z | z
          · exact i1 q (by simp [z])
          · simp at z; subst z; exact ⟨hp.1, hp.2.1, by simp only; omega⟩
        · rw [sumZ_append]; simp only [sumZ]; omega
      · refine ⟨fun q hq => ?_, ?_⟩
        · rcases List.mem_append.1 hq with z | z
          · exact i1 q z
          · simp at z; subst z; exact ⟨hbx.1, hbx.2, by simp⟩
        · rw [sumZ_append, sumZ_append]; simp only [sumZ]; omega
theorem sumZ_mem {l : List (Int × Int)} (h : ∀ p ∈ l, 1 ≤ p.2) : (l.length : Int) ≤ sumZ l ∧ ∀ p ∈ l, p.2 ≤ sumZ l := by
  induction l with
  | nil => simp [sumZ]
  | cons e r ih =>
    obtain ⟨i1, i2⟩ := ih (fun p hp => h p (by simp [hp]))
    have he := h e (by simp)
    simp only [sumZ, List.length_cons]
    refine ⟨by push_cast; omega, fun p hp => ?_⟩
    rcases List.mem_cons.1 hp with z | z
    · subst z; omega
    · have := i2 p z; omega
/-- The cells from an address on read as integers. -/
def RdZ (w : World) (ao : Option Addr) (b : List Int) : Prop :=
  ∀ i x, b[i]? = some x → ∃ k o, ao = some ⟨k, o, none⟩ ∧ k < w.heap.size ∧ w.cell? ⟨k, o + i, none⟩ = some (.int .i64 x)
theorem RdZ.gr0 {w w' : World} {ao : Option Addr} {b : List Int} (h : RdZ w ao b) (g : Gr [] w w') : RdZ w' ao b := fun i x hi => by
  obtain ⟨k, o, h1, h2, h3⟩ := h i x hi
  exact ⟨k, o, h1, Nat.lt_of_lt_of_le h2 g.size, (g.cell0 h2).trans h3⟩
def cellsZ (b : List Int) : List Value := b.map (Value.int .i64)
theorem cellsZ_append (a b : List Int) : cellsZ (a ++ b) = cellsZ a ++ cellsZ b := by simp [cellsZ]
theorem own_rdZ {w : World} {base : Nat} {e : TypeId} {n : Nat} {ao : Option Addr} {cap : Nat} {b : List Int} (h : w.ownsRow base e 1 (.slice ao n cap) n (cellsZ b)) : RdZ w ao b := by
  intro i x hi
  have hlt := (List.getElem?_eq_some_iff.1 hi).1
  have hn : b.length = n := by have := h.1; simp [cellsZ] at this; omega
  obtain ⟨g, cap', hv, hg1, hg2⟩ := h.form (by omega)
  injection hv with q1 q2 q3
  subst q1
  have h' : w.ownsRow base e 1 (.slice (some ⟨g, 0, none⟩) n cap) n (cellsZ b) := h
  refine ⟨g, 0, rfl, hg2, ?_⟩
  rw [Nat.zero_add, h'.cellAt i (by omega)]
  simp [cellsZ, hi]
theorem cells2_up (A : List (Int × Int)) (a b c : Int) : (cells2 (A ++ [(a, b)])).set (A.length * 2 + 1) (.int .i64 c) = cells2 (A ++ [(a, c)]) := cells2_bump A a b c
theorem row_upZ {w : World} {base : Nat} {e : TypeId} {g cap n : Nat} {A : List (Int × Int)} {a b : Int} (h : w.ownsRow base e 2 (.slice (some ⟨g, 0, none⟩) n cap) n (cells2 (A ++ [(a, b)]))) (c : Int) :
    n = A.length + 1 ∧ w.cell? ⟨g, A.length * 2, none⟩ = some (.int .i64 a) ∧ w.cell? ⟨g, A.length * 2 + 1, none⟩ = some (.int .i64 b) ∧ w.frozen? ⟨g, A.length * 2 + 1, none⟩ = false ∧ (w.setCell ⟨g, A.length * 2 + 1, none⟩ (.int .i64 c)).ownsRow base e 2 (.slice (some ⟨g, 0, none⟩) n cap) n (cells2 (A ++ [(a, c)])) := by
  have hn : n = A.length + 1 := by
    have := h.1
    rw [cells2_len, List.length_append] at this
    simp at this
    omega
  obtain ⟨q0, q1⟩ := cells2_get (A ++ [(a, b)]) A.length (a, b) (by simp)
  refine ⟨hn, ?_, ?_, h.frozenAt _, ?_⟩
  · rw [h.cellAt _ (by omega)]; exact q0
  · rw [h.cellAt _ (by omega)]; exact q1
  · have := (h.stored (A.length * 2 + 1) (.int .i64 c)).1
    rw [cells2_up] at this
    exact this

set_option maxHeartbeats 4000000 in
set_option maxRecDepth 20000 in
theorem rruns_any (b : List Int) (N : Nat) (ao : Option Addr) (cap : Nat) (w : World) (h : RdZ w ao b) (hN : N = b.length) (hb : ∀ x ∈ b, -1 ≤ x ∧ x ≤ 1000000) (hN2 : N ≤ 1000000) :
    Calls Try.prog 91 #[.slice ao N cap] w fun e w' => ∃ v, e = .returned v ∧ w'.ownsRow w.heap.size 44 2 v (runsP b).length (cells2 (runsP b)) ∧ Gr [] w w' := by
  obtain ⟨i0, hi0, hz0, hz1, hz2⟩ := info_parts infoP2
  have HR := Lib.hid h
  have HN := Lib.hid hN
  have HB := Lib.hid (fun k (hk : k ≤ b.length) => runs_take_ok hb k hk)
  have HBX := Lib.hid hb
  clear h hN hb
  go_enter Try.func91, Try.ntmps91
  go_wp2_with fail
  go_loopw [3, 4] (fun v i wr => ∃ k : Nat, k ≤ N ∧ i = .int .i64 k ∧ wr.ownsRow w.heap.size 44 2 v (runsP (b.take k)).length (cells2 (runsP (b.take k))) ∧ Gr [] w wr) (fun _ i _ => N - (intOf i).toNat)
  case atStart => exact ⟨0, by omega, rfl, World.ownsRow_nil _ _ _ _, Gr.refl _ _⟩
  case round =>
    obtain ⟨k, hk, rfl, ho, G⟩ := hrel
    have HQ := Lib.hid (And.intro ho G)
    have hsz := G.size
    clear ho G
    by_cases hkN : k < N
    · have hkN2 : (k : Int) < (N : Int) := by omega
      obtain ⟨x, hx⟩ : ∃ x, b[k]? = some x := ⟨_, List.getElem?_eq_getElem (by have := HN.out; omega)⟩
      obtain ⟨bk, o, hao, hbk, c1⟩ := HR.out k x hx
      have d1 : wr.cell? ⟨bk, o + k, none⟩ = some (.int .i64 x) := (HQ.out.2.cell0 hbk).trans c1
      have HXB := Lib.hid (HBX.out x (List.mem_of_getElem? hx))
      have HST := Lib.hid (runsP_take hx)
      obtain ⟨hok1, hok2⟩ := HB.out k (by have := HN.out; omega)
      have hln := (sumZ_mem (fun p hp => (hok1 p hp).2.2)).1
      rw [hok2] at hln
      subst hao
      clear c1 hx
      rcases List.eq_nil_or_concat (runsP (b.take k)) with hnil | ⟨A, ⟨p1, p2⟩, hcat⟩
      · rw [hnil] at HQ HST hln
        have HN3 := Lib.hid (Holds.new wr #[.int .i64 x, .int .i64 1] 44)
        have HO3 := Lib.hid (HQ.out.1.alloc (Obj.cells #[.int .i64 x, .int .i64 1] 44))
        have hone : ∀ u ∈ [Value.int .i64 x, .int .i64 1], u.oneCell' = true := by simp [Value.oneCell']
        have hu : ∃ aa cc, u3 = .slice aa 0 cc := by
          obtain ⟨aa, cc, hv⟩ := own_form HQ.out.1
          exact ⟨aa, cc, hv⟩
        obtain ⟨aa, cc, rfl⟩ := hu
        clear hok1 hok2 hln
        go_wp2_with (at_builtin; refine wpList_append_own _ rfl _ _ 39 rfl w.heap.size 44 i0 _ 2 16 Try.underlying39 hi0 hz0 hz1 hz2 rfl (by decide) _ _ _ rfl HO3.out ⟨wr.heap.size, 0, none⟩ 1 1 [.int .i64 x, .int .i64 1] rfl rfl (World.news_of_block HN3.out) hone (by unfold maxLen; simp) (by simp) (by rw [World.size_alloc]; omega) ?_)
        intro v4 w4 hown4 hgrow4 _
        have hlt4 := HO3.out.lt
        have HF := Lib.hid (And.intro (show w4.ownsRow w.heap.size 44 2 v4 (runsP (b.take (k + 1))).length (cells2 (runsP (b.take (k + 1)))) by
          rw [HST.out, addR_nil]; exact hown4) ((HQ.out.2.alloc (Obj.cells #[.int .i64 x, .int .i64 1] 44)).nextN (gr_grown hgrow4) (fun x hx => .inr (hlt4 x (by simpa using hx)).1)))
        clear hown4 hgrow4 hlt4 HO3 HN3 d1 hone
        go_wp2_with fail
        go_roundw
        case rel => exact ⟨k + 1, by omega, by go_num, HF.out.1, HF.out.2⟩
        case measure => simp [intOf]; omega
      · rw [List.concat_eq_append] at hcat
        rw [hcat] at HQ HST hln hok1 hok2
        have hp := hok1 (p1, p2) (by simp)
        simp only at hp
        have hp2 : p2 ≤ 1000000 := by
          have := (sumZ_mem (fun p hp => (hok1 p hp).2.2)).2 (p1, p2) (by simp)
          rw [hok2] at this
          simp only at this
          omega
        rw [List.length_append] at HQ hln
        have hv : ∃ g c, u3 = .slice (some ⟨g, 0, none⟩) (A.length + 1) c ∧ w.heap.size ≤ g ∧ g < wr.heap.size := HQ.out.1.form (Nat.succ_pos _)
        obtain ⟨g, c, rfl, hg1, hg2⟩ := hv
        obtain ⟨-, e0, e1, e2, e3⟩ := row_upZ HQ.out.1 (p2 + 1)
        have HR3 := Lib.hid (And.intro e3 hg1)
        obtain ⟨q, hq⟩ : ∃ q, q = A.length := ⟨_, rfl⟩
        rw [← hq] at e0 e1 e2 HQ HR3 ⊢
        have HQL := Lib.hid hq
        have hq6 : q ≤ 1000000 := by simp at hln; omega
        have i2 : (q : Int) + 1 - 1 = (q : Int) := by omega
        have i3 : IntKind.i64.wrap (q : Int) = (q : Int) := IntWalk.i64_in _ (by omega)
        have i4 : IntKind.i64.wrap (p2 + 1) = p2 + 1 := IntWalk.i64_in _ (by omega)
        have i5 : (q : Int) < (q : Int) + 1 := by omega
        have i6 : (0 : Int) ≤ (q : Int) := by omega
        have i7 : (0 : Int) < (q : Int) + 1 := by omega
        have i8 : (0 : Int) ≤ (k : Int) := by omega
        obtain ⟨m, hm⟩ : ∃ m, m = mrg (p1, p2) (x, 1) := ⟨_, rfl⟩
        have k0 := kp_cell e0
        have k1 := kp_cell e1
        have k2 := kp_cell d1
        have hne := kp_ne wr
        have P1 := Lib.hid (fun x_ : Cls (Kp wr) => kcall_of (rjoins_any p1 p2 x 1 x_.w (IntWalk.i64_in _ (by omega))))
        rw [← hm] at P1
        rw [addR_snoc, ← hm] at HST
        clear hq hcat hok1 hok2 hln hp hm e3
        go_wp2_with fail
        refine wp_region_kp (by kernel_rfl) (by kernel_rfl) ?_
        repeat (go_big_quiet_step ((rename_i x_; with_reducible exact kp_call x_ (P1.out x_))))
        with_reducible refine wpQuiet_nil ?_
        rintro _ ⟨y, rfl⟩
        have HY := Lib.hid (And.intro (own_keep HQ.out.1 y.h) (HQ.out.2.nextB y.h))
        have z0 := k0 y
        have z1 := k1 y
        have z2 := k2 y
        have zf : y.w.frozen? ⟨g, q * 2 + 1, none⟩ = false := HY.out.1.frozenAt _
        have hszy := HY.out.2.size
        clear k0 k1 k2 hne P1 e0 e1 e2 d1 HR3 HQ
        generalize y.w = wy at *
        clear y
        cases m with
        | true =>
          rw [if_pos rfl] at HST
          have HUP := Lib.hid (show (wy.setCell ⟨g, q * 2 + 1, none⟩ (.int .i64 (p2 + 1))).ownsRow w.heap.size 44 2 (.slice (some ⟨g, 0, none⟩) (q + 1) c) (q + 1) (cells2 (A ++ [(p1, p2 + 1)])) by
            have hz := HY.out.1
            rw [HQL.out] at hz ⊢
            exact (row_upZ hz (p2 + 1)).2.2.2.2)
          go_wp2_with fail
          go_still_tail 9, (by kernel_rfl)
          go_wp2_with fail
          go_roundw
          case rel =>
            refine ⟨k + 1, by omega, by go_num, ?_, (HY.out.2.setCell (p := ⟨g, q * 2 + 1, none⟩) (.inr hg1) _).drewN _⟩
            rw [HST.out, List.length_append, ← HQL.out]
            exact HUP.out
          case measure => simp [intOf]; omega
        | false =>
          rw [if_neg (by simp)] at HST
          have HN3 := Lib.hid (Holds.new wy #[.int .i64 x, .int .i64 1] 44)
          have HO3 := Lib.hid (HY.out.1.alloc (Obj.cells #[.int .i64 x, .int .i64 1] 44))
          have hone : ∀ u ∈ [Value.int .i64 x, .int .i64 1], u.oneCell' = true := by simp [Value.oneCell']
          go_wp2_with (at_builtin; refine wpList_append_own _ rfl _ _ 39 rfl w.heap.size 44 i0 _ 2 16 Try.underlying39 hi0 hz0 hz1 hz2 rfl (by decide) _ _ _ rfl HO3.out ⟨wy.heap.size, 0, none⟩ 1 1 [.int .i64 x, .int .i64 1] rfl rfl (World.news_of_block HN3.out) hone (by simp only [List.length_cons, List.length_nil]; unfold maxLen; omega) (by simp only [List.length_cons, List.length_nil]; omega) (by rw [World.size_alloc]; omega) ?_)
          intro v4 w4 hown4 hgrow4 _
          have hlt4 := HO3.out.lt
          have HF := Lib.hid (And.intro (show w4.ownsRow w.heap.size 44 2 v4 (runsP (b.take (k + 1))).length (cells2 (runsP (b.take (k + 1)))) by
            rw [HST.out, List.length_append, List.length_append, cells2_append, ← HQL.out]; exact hown4) ((HY.out.2.alloc (Obj.cells #[.int .i64 x, .int .i64 1] 44)).nextN (gr_grown hgrow4) (fun x hx => .inr (hlt4 x (by simpa using hx)).1)))
          clear hown4 hgrow4 hlt4 HO3 HN3 hone
          go_wp2_with fail
          go_roundw
          case rel => exact ⟨k + 1, by omega, by go_num, HF.out.1, HF.out.2⟩
          case measure => simp [intOf]; omega
    · obtain rfl : k = N := by omega
      have ht : b.take k = b := by rw [HN.out]; exact List.take_length
      rw [ht] at HQ
      go_wp2_with fail
      go_ret
      exact ⟨_, rfl, HQ.out.1, HQ.out.2⟩

end Go.Proofs.Ytpkhfdcokcchdaa

/-
  Layer 15: slices.Grow (laid; numbers of seat D: for another seat print anew by wip/gen/saylay.py) and slices.Concat.
-/
namespace Go.Proofs.Ytpkhfdcokcchdaa
open Go.RowKit Go.Shelf

def ExE.grow_ren : Go.Shelf.Ren := ⟨fun | 4 => 132 | n => n, fun | 22 => 82 | 25 => 35 | 3 => 3 | 4 => 4 | 9 => 9 | 20 => 20 | 0 => 0 | 2 => 3 | n => n, fun | n => n⟩
theorem ExE.grow : Go.Proofs.Lays8.n4 Try.prog ExE.grow_ren where
  mixed := by kernel_rfl
  f4 := ⟨ "slices.Grow[gabion/ext.List,gabion/alloc.Extent]", by decide, Try.func132.trans (congrArg some (by kernel_rfl))⟩
  t0 := Try.underlying0
  a0 := Try.isAgg0
  z0 := Try.sizeOf0
  v0 := Try.zeroValue0
  t3 := Try.underlying3
  a3 := Try.isAgg3
  z3 := Try.sizeOf3
  v3 := Try.zeroValue3
  t4 := Try.underlying4
  a4 := Try.isAgg4
  z4 := Try.sizeOf4
  v4 := Try.zeroValue4
  t9 := Try.underlying9
  a9 := Try.isAgg9
  z9 := Try.sizeOf9
  v9 := Try.zeroValue9
  t20 := Try.underlying20
  a20 := Try.isAgg20
  z20 := Try.sizeOf20
  v20 := Try.zeroValue20
  t22 := Try.underlying82
  a22 := Try.isAgg82
  z22 := Try.sizeOf82
  v22 := Try.zeroValue82

theorem egrow_any (n : Nat) (w : World) (hn : n ≤ 1000000) :
    Calls Try.prog 132 #[.slice none 0 0, .int .i64 n] w fun e w' => ∃ v, e = .returned v ∧ w'.ownsRow w.heap.size 35 2 v 0 [] ∧ Gr [] w w' := by
  by_cases h0 : n = 0
  · subst h0
    refine (Any8.slices_Grow_room ExE.grow none 0 0 0 w (by omega) (by omega) (by omega) (by omega)).mono ?_
    rintro e w' ⟨rfl, rfl⟩
    exact ⟨_, rfl, World.ownsRow_nil _ _ _ _, Gr.refl _ _⟩
  · obtain ⟨i0, hi, hz0, hz1, hz2⟩ := info_parts infoExt
    refine (Any8.slices_Grow_grow ExE.grow i0 _ hi hz0 (by omega) none 0 0 n [] w (by omega) (by omega) (by rw [hz2]; omega) (by omega) (by simp) (fun _ => rfl) (fun a ha => by cases ha)).mono ?_
    rintro e w' ⟨rfl, rfl⟩
    have hge : n ≤ grownCap w (0 + n) 0 35 := by have := grownCap_ge w (0 + n) 0 35; omega
    have hle := grownCap_le_maxLen w (0 + n) 0 35 (by unfold maxLen; omega)
    refine ⟨_, rfl, World.ownsRow_made (base := w.heap.size) (size := 2) w.drew _ _ (Nat.le_refl _) hle ?_, (Gr.refl [] w).drew.alloc _⟩
    have hz : ∀ k, (Builtin.zeroCells (Value.cells (.agg #[.int .i64 0, .int .i64 0])) k).size = k * 2 := fun k => by
      simp [Builtin.zeroCells, Value.cells]
    rw [Array.size_append, Array.size_append, hz, hz]
    show 0 + (0 + n - 0) * 2 + (grownCap w (0 + n) 0 35 - (0 + n)) * 2 = grownCap w (0 + n) 0 35 * 2
    omega

set_option maxRecDepth 20000 in
set_option maxHeartbeats 2000000 in
theorem econcat_any (LL : List (Option Addr × Nat × List (Int × Int))) (bb cp : Nat) (w : World) (h : CatIn LL bb w) (hL : LL.length ≤ 100) (hS : (catP LL).length ≤ 1000000) :
    Calls Try.prog 116 #[.slice (some ⟨bb, 0, none⟩) LL.length cp] w fun e w' => ∃ v, e = .returned v ∧ w'.ownsRow w.heap.size 35 2 v (catP LL).length (cells2 (catP LL)) ∧ Gr [] w w' := by
  obtain ⟨i0, hi, hz0, hz1, hz2⟩ := info_parts infoExt
  have H := Lib.hid h
  have HS := Lib.hid hS
  clear h hS
  obtain ⟨n, hn⟩ : ∃ n, n = LL.length := ⟨_, rfl⟩
  rw [← hn] at hL ⊢
  have HN := Lib.hid hn
  clear hn
  have HG := Lib.hid egrow_any
  go_enter Try.func116, Try.ntmps116
  go_wp2_with fail
  go_loopw [3, 11] (fun s i wr => ∃ k : Nat, k ≤ n ∧ s = .int .i64 ((catP (LL.take k)).length : Nat) ∧ i = .int .i64 k ∧ w = wr) (fun _ i _ => n - (intOf i).toNat)
  case atStart => exact ⟨0, by omega, by simp [catP], rfl, rfl⟩
  case round =>
    obtain ⟨k, hk, rfl, rfl, rfl⟩ := hrel
    by_cases hlt : k < n
    · obtain ⟨x, hx⟩ : ∃ x, LL[k]? = some x := ⟨_, List.getElem?_eq_getElem (by have := HN.out; omega)⟩
      have c1 := H.out.cell k x hx
      have q := catP_succ LL k x hx
      have q1 := catP_len_take LL (k + 1)
      have q2 := HS.out
      have q3 : (catP (LL.take (k + 1))).length = (catP (LL.take k)).length + x.2.2.length := by rw [q, List.length_append]
      have HE := Lib.hid q3
      obtain ⟨m, hm⟩ : ∃ m, m = (catP (LL.take k)).length := ⟨_, rfl⟩
      obtain ⟨m2, hm2⟩ : ∃ m2, m2 = x.2.2.length := ⟨_, rfl⟩
      rw [← hm, ← hm2] at q3 HE
      rw [← hm2] at c1
      rw [← hm]
      have b1 : m + m2 ≤ 1000000 := by omega
      clear q q1 q2 q3 hx hm hm2
      go_wp2
      go_roundw
      case rel => exact ⟨k + 1, by omega, by rw [HE.out]; go_num, by go_num, by first | rfl | trivial⟩
      case measure => simp [intOf]; omega
    · obtain rfl : k = n := by omega
      have HE := Lib.hid (show catP (LL.take k) = catP LL by rw [HN.out, List.take_length])
      rw [HE.out]
      obtain ⟨m, hm⟩ : ∃ m, m = (catP LL).length := ⟨_, rfl⟩
      rw [← hm]
      have b1 : m ≤ 1000000 := by rw [hm]; exact HS.out
      have HM := Lib.hid hm
      clear hm
      go_wp2_with fail
      refine (HG.out m _ b1).mono ?_
      rintro e w1 ⟨v, rfl, ho, g⟩
      have HO := Lib.hid (And.intro ho g)
      clear ho g
      go_wp2_with fail
      go_loopw [6, 27] (fun s i wa => ∃ k' : Nat, k' ≤ k ∧ i = .int .i64 k' ∧ wa.ownsRow w.heap.size 35 2 s (catP (LL.take k')).length (cells2 (catP (LL.take k'))) ∧ Gr [] w wa) (fun _ i _ => k - (intOf i).toNat)
      case atStart => exact ⟨0, by omega, rfl, by simpa [catP, cells2] using HO.out.1, HO.out.2⟩
      case round =>
        obtain ⟨k', hk', rfl, ho, g⟩ := hrel
        have HO := Lib.hid (And.intro ho g)
        clear ho g
        by_cases hlt : k' < k
        · obtain ⟨x, hx⟩ : ∃ x, LL[k']? = some x := ⟨_, List.getElem?_eq_getElem (by have := HN.out; omega)⟩
          have c1 := (H.out.gr0 HO.out.2).cell k' x hx
          have q := catP_succ LL k' x hx
          have q1 := catP_len_take LL (k' + 1)
          have q3 : (catP (LL.take (k' + 1))).length = (catP (LL.take k')).length + x.2.2.length := by rw [q, List.length_append]
          have hb1 : (catP (LL.take k')).length + x.2.2.length ≤ 1000000 := by have := HM.out; omega
          have hrd := (H.out.gr0 HO.out.2).rd x (List.mem_of_getElem? hx)
          have hcap := H.out.cap x (List.mem_of_getElem? hx)
          have HE := Lib.hid q
          have HB := Lib.hid hb1
          obtain ⟨xa, xc, xl⟩ := x
          simp only at c1 hrd hcap
          clear q q1 q3 hb1 hx
          cases xa with
          | none =>
            obtain rfl := hcap.2 rfl
            have h0 : xl = [] := List.length_eq_zero_iff.1 (by omega)
            subst h0
            have c2 : wr.cell? ⟨bb, k', none⟩ = some (.slice none 0 0) := c1
            clear c1 hrd hcap
            go_wp2_with (at_builtin; refine wpList_append_own_none rfl _ _ 82 rfl w.heap.size 35 i0 2 Try.underlying82 hi _ _ _ rfl HO.out.1 rfl ?_)
            have HF := Lib.hid (show catP (LL.take (k' + 1)) = catP (LL.take k') by have := HE.out; simp only [List.append_nil] at this; exact this)
            go_roundw
            case rel => exact ⟨k' + 1, by omega, by go_num, by rw [HF.out]; exact HO.out.1, HO.out.2⟩
            case measure => simp [intOf]; omega
          | some a =>
            have HR := Lib.hid (And.intro (hrd.cells rfl) (And.intro (cells2_len xl) (cells2_one xl)))
            obtain ⟨m2, hm2⟩ : ∃ m2, m2 = xl.length := ⟨_, rfl⟩
            rw [← hm2] at c1 HR HB
            have HM2 := Lib.hid hm2
            clear hrd hcap hm2
            go_wp2_with (at_builtin; refine wpList_append_own _ rfl _ _ 82 rfl w.heap.size 35 i0 _ 2 16 Try.underlying82 hi hz0 hz1 hz2 rfl (by decide) _ _ _ rfl HO.out.1 a m2 _ (cells2 xl) rfl HR.out.2.1 HR.out.1 HR.out.2.2 (by have := HB.out; unfold maxLen; omega) (by have := HB.out; omega) HO.out.2.size ?_)
            intro v' w1 hown' hgrow _
            have hlt2 := HO.out.1.lt
            have HF := Lib.hid (show w1.ownsRow w.heap.size 35 2 v' (catP (LL.take (k' + 1))).length (cells2 (catP (LL.take (k' + 1)))) ∧ Gr [] w w1 by
              refine ⟨?_, HO.out.2.grown hgrow (fun j hj => .inr (hlt2 j hj).1)⟩
              rw [HE.out, cells2_append, List.length_append]
              show w1.ownsRow _ _ _ _ (_ + xl.length) _
              rw [← HM2.out]
              exact hown')
            clear hown' hgrow hlt2
            go_wp2
            go_roundw
            case rel => exact ⟨k' + 1, by omega, by go_num, HF.out.1, HF.out.2⟩
            case measure => simp [intOf]; omega
        · obtain rfl : k' = k := by omega
          have HE2 := Lib.hid (show catP (LL.take k') = catP LL by rw [HN.out, List.take_length])
          go_wp2_with fail
          go_ret
          exact ⟨_, rfl, by rw [← HE2.out, HM.out, ← HE2.out]; exact HO.out.1, HO.out.2⟩

theorem econcat_is (LL : List (Option Addr × Nat × List (Int × Int))) (RL : List (Int × Int)) (m bb cp : Nat) (w : World) (hR : catP LL = RL) (hm : m = RL.length) (h : CatIn LL bb w) (hL : LL.length ≤ 100) (hS : m ≤ 1000000) :
    Calls Try.prog 116 #[.slice (some ⟨bb, 0, none⟩) LL.length cp] w fun e w' => ∃ ao cap, e = .returned (.slice ao m cap) ∧ Rd2 w' ao RL ∧ Gr [] w w' := by
  refine (econcat_any LL bb cp w h hL (by rw [hR, ← hm]; exact hS)).mono ?_
  rintro e w' ⟨v, rfl, ho, g⟩
  rw [hR, ← hm] at ho
  obtain ⟨ao, cap, rfl⟩ := own_form ho
  obtain ⟨a', c', hv, hr, -⟩ := own_sl2 ho
  injection hv with q1 q2 q3
  subst q1
  exact ⟨_, _, rfl, hr, g⟩

end Go.Proofs.Ytpkhfdcokcchdaa

/-
  Layer 15: the program's join.
-/
namespace Go.Proofs.Ytpkhfdcokcchdaa
open Go.RowKit

theorem joinP_take {l : List (Int × Int)} {k : Nat} {e : Int × Int} (h : l[k]? = some e) : joinP (l.take (k + 1)) = addR (joinP (l.take k)) e := by
  obtain ⟨h1, h2⟩ := List.getElem?_eq_some_iff.1 h
  rw [List.take_succ_eq_append_getElem h1, h2]
  unfold joinP
  rw [List.foldl_append]
  rfl
theorem join_take_ok {l : List (Int × Int)} {B : Int} (hb : ∀ e ∈ l, -1 ≤ e.1 ∧ e.1 ≤ B ∧ 1 ≤ e.2) (k : Nat) (hk : k ≤ l.length) : (∀ p ∈ joinP (l.take k), -1 ≤ p.1 ∧ p.1 ≤ B ∧ 1 ≤ p.2) ∧ sumZ (joinP (l.take k)) = sumZ (l.take k) := by
  induction k with
  | zero => simp [joinP, sumZ]
  | succ k ih =>
    obtain ⟨i1, i2⟩ := ih (by omega)
    have hx := List.getElem?_eq_getElem (show k < l.length by omega)
    have hbx := hb _ (List.mem_of_getElem? hx)
    rw [joinP_take hx, sumZ_take hx]
    rcases List.eq_nil_or_concat (joinP (l.take k)) with h | ⟨A, p, h⟩
    · rw [h] at i1 i2 ⊢
      rw [addR_nil]
      simp only [sumZ] at i2 ⊢
      exact ⟨fun q hq => by simp at hq; subst hq; exact hbx, by omega⟩
    · rw [List.concat_eq_append] at h
      rw [h] at i1 i2 ⊢
      rw [addR_snoc]
      rw [sumZ_append] at i2
      simp only [sumZ] at i2
      have hp := i1 p (by simp)
      split
      · refine ⟨fun q hq => ?_, ?_⟩
        · rcases List.mem_append.1 hq with z | z
          · exact i1 q (by simp [z])
          · simp at z; subst z; exact ⟨hp.1, hp.2.1, by simp only; omega⟩
        · rw [sumZ_append]; simp only [sumZ]; omega
      · refine ⟨fun q hq => ?_, ?_⟩
        · rcases List.mem_append.1 hq with z | z
          · exact i1 q z
          · simp at z; subst z; exact hbx
        · rw [sumZ_append, sumZ_append]; simp only [sumZ]; omega
theorem sumZ_hi {l : List (Int × Int)} (h : ∀ e ∈ l, 1 ≤ e.2 ∧ e.2 ≤ 65536) (k : Nat) : sumZ (l.take k) ≤ 65536 * l.length := by
  have := small_sum h k
  by_cases hk : k ≤ l.length
  · have : (65536 : Int) * (k : Int) ≤ 65536 * (l.length : Int) := by omega
    omega
  · rw [List.take_of_length_le (by omega)]
    have := small_sum h l.length
    rw [List.take_length] at this
    omega

set_option maxHeartbeats 4000000 in
set_option maxRecDepth 20000 in
theorem ejoin_any (LL : List (Option Addr × Nat × List (Int × Int))) (RL : List (Int × Int)) (bb cp : Nat) (w : World) (hR : catP LL = RL) (h : CatIn LL bb w) (hL : LL.length ≤ 100) (hN2 : RL.length ≤ 200) (hb : ∀ e ∈ RL, -1 ≤ e.1 ∧ e.1 ≤ 9223372036854775807 ∧ 1 ≤ e.2 ∧ e.2 ≤ 65536) :
    Calls Try.prog 101 #[.slice (some ⟨bb, 0, none⟩) LL.length cp] w fun e w' => ∃ ao' cap', e = .returned (.slice ao' (joinP RL).length cap') ∧ w'.ownsRow w.heap.size 35 2 (.slice ao' (joinP RL).length cap') (joinP RL).length (cells2 (joinP RL)) ∧ Gr [] w w' := by
  obtain ⟨i0, hi0, hz0, hz1, hz2⟩ := info_parts infoExt
  obtain ⟨N, hN⟩ : ∃ N, N = RL.length := ⟨_, rfl⟩
  have HC := Lib.hid (econcat_is LL RL N bb cp w hR hN h hL (by omega))
  have HN := Lib.hid hN
  have HB := Lib.hid (fun k (hk : k ≤ RL.length) => join_take_ok (B := 9223372036854775807) (fun e he => ⟨(hb e he).1, (hb e he).2.1, (hb e he).2.2.1⟩) k hk)
  have HS := Lib.hid (fun k => sumZ_hi (fun e he => ⟨(hb e he).2.2.1, (hb e he).2.2.2⟩) k)
  have HBX := Lib.hid hb
  rw [← hN] at hN2
  clear hR h hL hN hb
  go_enter Try.func101, Try.ntmps101
  go_wp2_with fail
  refine HC.out.mono ?_
  rintro e w1 ⟨a1, c1, rfl, r1, g1⟩
  have H1 := Lib.hid (And.intro r1 g1)
  clear HC r1 g1
  go_wp2_with fail
  go_loopw [3, 10] (fun v i wr => ∃ k : Nat, k ≤ N ∧ i = .int .i64 k ∧ wr.ownsRow w1.heap.size 35 2 v (joinP (RL.take k)).length (cells2 (joinP (RL.take k))) ∧ Gr [] w1 wr) (fun _ i _ => N - (intOf i).toNat)
  case atStart => exact ⟨0, by omega, rfl, World.ownsRow_nil _ _ _ _, Gr.refl _ _⟩
  case round =>
    obtain ⟨k, hk, rfl, ho, G⟩ := hrel
    have HQ := Lib.hid (And.intro ho G)
    have hsz := G.size
    clear ho G
    by_cases hkN : k < N
    · have hkN2 : (k : Int) < (N : Int) := by omega
      obtain ⟨⟨x1, x2⟩, hx⟩ : ∃ x, RL[k]? = some x := ⟨_, List.getElem?_eq_getElem (by have := HN.out; omega)⟩
      obtain ⟨bk, o, hao, hbk, c1, c2⟩ := H1.out.1 k _ hx
      have y0 : wr.cell? ⟨bk, o + k * 2, none⟩ = some (.int .i64 x1) := (HQ.out.2.cell0 hbk).trans c1
      have y1 : wr.cell? ⟨bk, o + k * 2 + 1, none⟩ = some (.int .i64 x2) := (HQ.out.2.cell0 hbk).trans c2
      have hxb := HBX.out _ (List.mem_of_getElem? hx)
      simp only at hxb
      have HXB := Lib.hid hxb
      have HST := Lib.hid (joinP_take hx)
      obtain ⟨hok1, hok2⟩ := HB.out k (by have := HN.out; omega)
      have hs9 := HS.out k
      rw [← HN.out] at hs9
      have hln := sumZ_mem (fun p hp => (hok1 p hp).2.2)
      rw [hok2] at hln
      have HGA := Lib.hid (HQ.out.2.alloc (Obj.cells #[.int .i64 x1, .int .i64 x2] 35))
      have HX := Lib.hid (Holds.new wr #[.int .i64 x1, .int .i64 x2] 35)
      have HOA := Lib.hid (HQ.out.1.alloc (Obj.cells #[.int .i64 x1, .int .i64 x2] 35))
      subst hao
      clear c1 c2 hx hxb
      rcases List.eq_nil_or_concat (joinP (RL.take k)) with hnil | ⟨A, ⟨p1, p2⟩, hcat⟩
      · rw [hnil] at HQ HOA HST
        have hu : ∃ aa cc, u3 = .slice aa 0 cc := by
          obtain ⟨aa, cc, hv⟩ := own_form HQ.out.1
          exact ⟨aa, cc, hv⟩
        obtain ⟨aa, cc, rfl⟩ := hu
        clear hok1 hok2 hln hs9
        go_wp2_with fail
        go_quiet (fail)
        have z0 : ((wr.alloc (Obj.cells #[.int .i64 x1, .int .i64 x2] 35)).drewN nq).cell? ⟨wr.heap.size, 0, none⟩ = some (.int .i64 x1) := (HX.out.gr0 ((Gr.refl [] _).drewN nq)).cell 0
        have z1 : ((wr.alloc (Obj.cells #[.int .i64 x1, .int .i64 x2] 35)).drewN nq).cell? ⟨wr.heap.size, 1, none⟩ = some (.int .i64 x2) := (HX.out.gr0 ((Gr.refl [] _).drewN nq)).cell 1
        have hzs : w1.heap.size ≤ ((wr.alloc (Obj.cells #[.int .i64 x1, .int .i64 x2] 35)).drewN nq).heap.size := (HGA.out.drewN nq).size
        have HOY := Lib.hid (own_gr0 HOA.out ((Gr.refl [] (wr.alloc (Obj.cells #[.int .i64 x1, .int .i64 x2] 35))).drewN nq))
        have HGY := Lib.hid (HGA.out.drewN nq)
        generalize (wr.alloc (Obj.cells #[.int .i64 x1, .int .i64 x2] 35)).drewN nq = wy at *
        have HN3 := Lib.hid (Holds.new wy #[.int .i64 x1, .int .i64 x2] 35)
        have HO3 := Lib.hid (HOY.out.alloc (Obj.cells #[.int .i64 x1, .int .i64 x2] 35))
        have hone : ∀ u ∈ [Value.int .i64 x1, .int .i64 x2], u.oneCell' = true := by simp [Value.oneCell']
        go_wp2_with (at_builtin; refine wpList_append_own _ rfl _ _ 82 rfl w1.heap.size 35 i0 _ 2 16 Try.underlying82 hi0 hz0 hz1 hz2 rfl (by decide) _ _ _ rfl HO3.out ⟨wy.heap.size, 0, none⟩ 1 1 [.int .i64 x1, .int .i64 x2] rfl rfl (World.news_of_block HN3.out) hone (by unfold maxLen; simp) (by simp) (by rw [World.size_alloc]; omega) ?_)
        intro v4 w4 hown4 hgrow4 _
        have hlt4 := HO3.out.lt
        have HF := Lib.hid (And.intro (show w4.ownsRow w1.heap.size 35 2 v4 (joinP (RL.take (k + 1))).length (cells2 (joinP (RL.take (k + 1)))) by
          rw [HST.out, addR_nil]; exact hown4) ((HGY.out.alloc (Obj.cells #[.int .i64 x1, .int .i64 x2] 35)).nextN (gr_grown hgrow4) (fun x hx => .inr (hlt4 x (by simpa using hx)).1)))
        clear hown4 hgrow4 hlt4 HO3 HN3 hone z0 z1 y0 y1
        go_wp2_with fail
        go_roundw
        case rel => exact ⟨k + 1, by omega, by go_num, HF.out.1, HF.out.2⟩
        case measure => simp [intOf]; omega
      · rw [List.concat_eq_append] at hcat
        rw [hcat] at HQ HOA HST hln hok1 hok2
        have hp := hok1 (p1, p2) (by simp)
        simp only at hp
        have hp2 : p2 ≤ 14000000 := by
          have := hln.2 (p1, p2) (by simp)
          simp only at this
          omega
        rw [List.length_append] at HQ HOA
        have hln2 : A.length ≤ 14000000 := by
          have := hln.1
          rw [List.length_append] at this
          push_cast at this
          simp at this
          omega
        have hv : ∃ g c, u3 = .slice (some ⟨g, 0, none⟩) (A.length + 1) c ∧ w1.heap.size ≤ g ∧ g < wr.heap.size := HQ.out.1.form (Nat.succ_pos _)
        obtain ⟨g, c, rfl, hg1, hg2⟩ := hv
        obtain ⟨-, e0, e1, e2, e3⟩ := row_upZ HOA.out (p2 + x2)
        obtain ⟨q, hq⟩ : ∃ q, q = A.length := ⟨_, rfl⟩
        rw [← hq] at e0 e1 e2 HQ HOA hln2 ⊢
        have HQL := Lib.hid hq
        have i1 : (q : Int) + 1 - 1 = (q : Int) := by omega
        have i3 : IntKind.i64.wrap (q : Int) = (q : Int) := IntWalk.i64_in _ (by omega)
        have i4 : IntKind.i64.wrap (p2 + x2) = p2 + x2 := IntWalk.i64_in _ (by have := HXB.out; omega)
        have i5 : (q : Int) < (q : Int) + 1 := by omega
        have i6 : (0 : Int) ≤ (q : Int) := by omega
        obtain ⟨m, hm⟩ : ∃ m, m = mrg (p1, p2) (x1, x2) := ⟨_, rfl⟩
        have z0 : (wr.alloc (Obj.cells #[.int .i64 x1, .int .i64 x2] 35)).cell? ⟨wr.heap.size, 0, none⟩ = some (.int .i64 x1) := HX.out.cell 0
        have z1 : (wr.alloc (Obj.cells #[.int .i64 x1, .int .i64 x2] 35)).cell? ⟨wr.heap.size, 1, none⟩ = some (.int .i64 x2) := HX.out.cell 1
        have k0 := kp_cell e0
        have k1 := kp_cell e1
        have k2 := kp_cell z0
        have k3 := kp_cell z1
        have hne := kp_ne (wr.alloc (Obj.cells #[.int .i64 x1, .int .i64 x2] 35))
        have P1 := Lib.hid (fun x_ : Cls (Kp (wr.alloc (Obj.cells #[.int .i64 x1, .int .i64 x2] 35))) => kcall_of (emerge_big p1 p2 x1 x2 x_.w (by omega) (by omega) (by have := HXB.out; omega)))
        rw [← hm] at P1
        rw [addR_snoc, ← hm] at HST
        clear hq hcat hok1 hok2 hln hp hm e3 hs9
        go_wp2_with fail
        refine wp_region_kp (by kernel_rfl) (by kernel_rfl) ?_
        repeat (go_big_quiet_step ((rename_i x_; with_reducible exact kp_call x_ (P1.out x_))))
        with_reducible refine wpQuiet_nil ?_
        rintro _ ⟨y, rfl⟩
        have HY := Lib.hid (And.intro (own_keep HOA.out y.h) (HGA.out.nextB y.h))
        have z0 := k2 y
        have z1 := k3 y
        have v1 := k1 y
        have zf : y.w.frozen? ⟨g, q * 2 + 1, none⟩ = false := HY.out.1.frozenAt _
        have hszy := HY.out.2.size
        clear k0 k1 k2 k3 hne P1 e0 e1 e2 HQ HOA
        generalize y.w = wy at *
        clear y
        cases m with
        | true =>
          rw [if_pos rfl] at HST
          have HUP := Lib.hid (show (wy.setCell ⟨g, q * 2 + 1, none⟩ (.int .i64 (p2 + x2))).ownsRow w1.heap.size 35 2 (.slice (some ⟨g, 0, none⟩) (q + 1) c) (q + 1) (cells2 (A ++ [(p1, p2 + x2)])) by
            have hz := HY.out.1
            rw [HQL.out] at hz ⊢
            exact (row_upZ hz (p2 + x2)).2.2.2.2)
          go_wp2_with fail
          go_still_tail 10, (by kernel_rfl)
          go_wp2_with fail
          go_roundw
          case rel =>
            refine ⟨k + 1, by omega, by go_num, ?_, (HY.out.2.setCell (p := ⟨g, q * 2 + 1, none⟩) (.inr hg1) _).drewN _⟩
            rw [HST.out, List.length_append, ← HQL.out]
            exact HUP.out
          case measure => simp [intOf]; omega
        | false =>
          rw [if_neg (by simp)] at HST
          have HN3 := Lib.hid (Holds.new wy #[.int .i64 x1, .int .i64 x2] 35)
          have HO3 := Lib.hid (HY.out.1.alloc (Obj.cells #[.int .i64 x1, .int .i64 x2] 35))
          have hone : ∀ u ∈ [Value.int .i64 x1, .int .i64 x2], u.oneCell' = true := by simp [Value.oneCell']
          go_wp2_with (at_builtin; refine wpList_append_own _ rfl _ _ 82 rfl w1.heap.size 35 i0 _ 2 16 Try.underlying82 hi0 hz0 hz1 hz2 rfl (by decide) _ _ _ rfl HO3.out ⟨wy.heap.size, 0, none⟩ 1 1 [.int .i64 x1, .int .i64 x2] rfl rfl (World.news_of_block HN3.out) hone (by simp only [List.length_cons, List.length_nil]; unfold maxLen; omega) (by simp only [List.length_cons, List.length_nil]; omega) (by rw [World.size_alloc]; omega) ?_)
          intro v4 w4 hown4 hgrow4 _
          have hlt4 := HO3.out.lt
          have HF := Lib.hid (And.intro (show w4.ownsRow w1.heap.size 35 2 v4 (joinP (RL.take (k + 1))).length (cells2 (joinP (RL.take (k + 1)))) by
            rw [HST.out, List.length_append, List.length_append, cells2_append, ← HQL.out]; exact hown4) ((HY.out.2.alloc (Obj.cells #[.int .i64 x1, .int .i64 x2] 35)).nextN (gr_grown hgrow4) (fun x hx => .inr (hlt4 x (by simpa using hx)).1)))
          clear hown4 hgrow4 hlt4 HO3 HN3 hone z0 z1
          go_wp2_with fail
          go_roundw
          case rel => exact ⟨k + 1, by omega, by go_num, HF.out.1, HF.out.2⟩
          case measure => simp [intOf]; omega
    · obtain rfl : k = N := by omega
      have ht : RL.take k = RL := by rw [HN.out]; exact List.take_length
      rw [ht] at HQ
      obtain ⟨ao', cap', rfl⟩ := own_form HQ.out.1
      have HF := Lib.hid (And.intro (HQ.out.1.mono H1.out.2.size) (H1.out.2.next0 HQ.out.2))
      clear HQ
      go_wp2_with fail
      go_ret
      exact ⟨_, _, rfl, HF.out.1, HF.out.2⟩

end Go.Proofs.Ytpkhfdcokcchdaa

/-
  Layer 15: a list cut in two.
-/
namespace Go.Proofs.Ytpkhfdcokcchdaa
open Go.RowKit

def firstP : List (Int × Int) → Int → List (Int × Int)
  | [], _ => []
  | e :: r, n => (if 0 < min n e.2 then [(e.1, min n e.2)] else []) ++ firstP r (n - min n e.2)
def restP : List (Int × Int) → Int → List (Int × Int)
  | [], _ => []
  | e :: r, n => (if min n e.2 < e.2 then [(spotP e (min n e.2), e.2 - min n e.2)] else []) ++ restP r (n - min n e.2)
theorem spotP_zero (e : Int × Int) : spotP e 0 = e.1 := by
  unfold spotP; split
  · rename_i h; rw [h]
  · omega
theorem firstP_zero {l : List (Int × Int)} (h : ∀ e ∈ l, 1 ≤ e.2) : firstP l 0 = [] := by
  induction l with
  | nil => rfl
  | cons e r ih =>
    have he := h e (by simp)
    simp only [firstP]
    rw [show min 0 e.2 = 0 by omega, if_neg (by omega), Int.sub_zero, ih (fun x hx => h x (by simp [hx]))]
    rfl
theorem restP_zero {l : List (Int × Int)} (h : ∀ e ∈ l, 1 ≤ e.2) : restP l 0 = l := by
  induction l with
  | nil => rfl
  | cons e r ih =>
    have he := h e (by simp)
    simp only [restP]
    rw [show min 0 e.2 = 0 by omega, if_pos (by omega), Int.sub_zero, Int.sub_zero, spotP_zero, ih (fun x hx => h x (by simp [hx]))]
    rfl
theorem firstP_big (e : Int × Int) (r : List (Int × Int)) (n : Int) (h : e.2 ≤ n) (he : 1 ≤ e.2) : firstP (e :: r) n = e :: firstP r (n - e.2) := by
  simp only [firstP]
  rw [show min n e.2 = e.2 by omega, if_pos (by omega)]
  rfl
theorem restP_big (e : Int × Int) (r : List (Int × Int)) (n : Int) (h : e.2 ≤ n) : restP (e :: r) n = restP r (n - e.2) := by
  simp only [restP]
  rw [show min n e.2 = e.2 by omega, if_neg (by omega)]
  rfl
theorem firstP_small (e : Int × Int) (r : List (Int × Int)) (n : Int) (h : n < e.2) (_h0 : 0 ≤ n) (hr : ∀ e ∈ r, 1 ≤ e.2) : firstP (e :: r) n = if 0 < n then [(e.1, n)] else [] := by
  simp only [firstP]
  rw [show min n e.2 = n by omega, Int.sub_self, firstP_zero hr, List.append_nil]
theorem restP_small (e : Int × Int) (r : List (Int × Int)) (n : Int) (h : n < e.2) (hr : ∀ e ∈ r, 1 ≤ e.2) : restP (e :: r) n = (spotP e n, e.2 - n) :: r := by
  simp only [restP]
  rw [show min n e.2 = n by omega, if_pos h, Int.sub_self, restP_zero hr]
  rfl
theorem blkR_take (e : Int × Int) (n : Int) (_h0 : 0 ≤ n) (h : n ≤ e.2) : blkR (e.1, n) = (blkR e).take n.toNat := by
  unfold blkR
  rw [← List.map_take, List.take_range, show min n.toNat e.2.toNat = n.toNat by omega]
theorem blkR_drop (e : Int × Int) (n : Int) (h0 : 0 ≤ n) (h : n ≤ e.2) (ha : -1 ≤ e.1) : blkR (spotP e n, e.2 - n) = (blkR e).drop n.toNat := by
  apply List.ext_getElem?
  intro i
  unfold blkR spotP
  rw [List.getElem?_map, List.getElem?_drop, List.getElem?_map]
  by_cases hi : i < (e.2 - n).toNat
  · rw [List.getElem?_range hi, List.getElem?_range (by omega)]
    simp only [Option.map_some]
    congr 1
    by_cases he : e.1 = -1
    · simp [he]
    · rw [if_neg he, if_neg he, if_neg (by omega)]
      push_cast
      omega
  · have h1 : (List.range (e.2 - n).toNat)[i]? = none := List.getElem?_eq_none (by rw [List.length_range]; omega)
    have h2 : (List.range e.2.toNat)[n.toNat + i]? = none := List.getElem?_eq_none (by rw [List.length_range]; omega)
    rw [h1, h2]
    rfl
/-- The two parts have all blocks. -/
theorem split_blk {l : List (Int × Int)} {n : Int} (h0 : 0 ≤ n) (h : ∀ e ∈ l, -1 ≤ e.1 ∧ 1 ≤ e.2) : blk (firstP l n) = (blk l).take n.toNat ∧ blk (restP l n) = (blk l).drop n.toNat := by
  induction l generalizing n with
  | nil => simp [firstP, restP, blk]
  | cons e r ih =>
    have he := h e (by simp)
    have hr : ∀ e ∈ r, -1 ≤ e.1 ∧ 1 ≤ e.2 := fun x hx => h x (by simp [hx])
    rw [blk_cons]
    have hl : (blkR e).length = e.2.toNat := blkR_len e
    by_cases c : e.2 ≤ n
    · rw [firstP_big e r n c he.2, restP_big e r n c, blk_cons]
      obtain ⟨i1, i2⟩ := ih (n := n - e.2) (by omega) hr
      rw [i1, i2, List.take_append, List.drop_append, List.take_of_length_le (l := blkR e) (by omega), List.drop_of_length_le (l := blkR e) (by omega), hl, show (n - e.2).toNat = n.toNat - e.2.toNat by omega]
      exact ⟨rfl, by simp⟩
    · have c' : n < e.2 := by omega
      have hr2 : ∀ e ∈ r, 1 ≤ e.2 := fun x hx => (hr x hx).2
      rw [firstP_small e r n c' h0 hr2, restP_small e r n c' hr2, blk_cons, blkR_drop e n h0 (by omega) he.1, List.take_append, List.drop_append, hl, show n.toNat - e.2.toNat = 0 by omega]
      constructor
      · split
        · rw [show blk [(e.1, n)] = blkR (e.1, n) by simp [blk], blkR_take e n h0 (by omega)]
          simp
        · have : n = 0 := by omega
          subst this
          simp [blk]
      · simp
theorem apart_cons (a : Int × Int) (L : List (Int × Int)) : apartP (a :: L) = ((match L.head? with | none => true | some b => !mrg a b) && apartP L) := by
  cases L with
  | nil => rfl
  | cons b r => rfl
theorem mrg_fst (a b c : Int × Int) (h : b.1 = c.1) : mrg a b = mrg a c := by unfold mrg; rw [h]
theorem mrg_spot (e b : Int × Int) (n : Int) (h0 : 0 ≤ n) (ha : -1 ≤ e.1) : mrg (spotP e n, e.2 - n) b = mrg e b := by
  unfold mrg spotP
  simp only
  by_cases he : e.1 = -1
  · simp [he]
  · rw [if_neg he]
    have : ¬ e.1 + n = -1 := by omega
    by_cases hb : b.1 = -1
    · rw [if_pos (.inr hb), if_pos (.inr hb)]
      rw [decide_eq_decide]
      omega
    · rw [if_neg (fun q => q.elim this hb), if_neg (fun q => q.elim he hb)]
      rw [decide_eq_decide]
      omega
/-- What is told of both parts. -/
theorem split_ok {l : List (Int × Int)} {n : Int} {B : Int} (h0 : 0 ≤ n) (h : ∀ e ∈ l, -1 ≤ e.1 ∧ e.1 ≤ B ∧ 1 ≤ e.2 ∧ e.2 ≤ 65536) (hap : apartP l = true) :
    (∀ e ∈ firstP l n, -1 ≤ e.1 ∧ e.1 ≤ B ∧ 1 ≤ e.2 ∧ e.2 ≤ 65536) ∧ (∀ e ∈ restP l n, -1 ≤ e.1 ∧ e.1 ≤ B + 65536 ∧ 1 ≤ e.2 ∧ e.2 ≤ 65536) ∧
    apartP (firstP l n) = true ∧ apartP (restP l n) = true ∧ (firstP l n).length ≤ l.length ∧ (restP l n).length ≤ l.length ∧
    (∀ b, (firstP l n).head? = some b → ∃ c, l.head? = some c ∧ b.1 = c.1) ∧ heldZ (firstP l n) + heldZ (restP l n) = heldZ l := by
  induction l generalizing n with
  | nil => simp [firstP, restP, apartP, heldZ]
  | cons e r ih =>
    have he := h e (by simp)
    have hr : ∀ e ∈ r, -1 ≤ e.1 ∧ e.1 ≤ B ∧ 1 ≤ e.2 ∧ e.2 ≤ 65536 := fun x hx => h x (by simp [hx])
    rw [apart_cons, Bool.and_eq_true] at hap
    by_cases c : e.2 ≤ n
    · rw [firstP_big e r n c he.2.2.1, restP_big e r n c]
      obtain ⟨i1, i2, i3, i4, i5, i6, i7, i8⟩ := ih (n := n - e.2) (by omega) hr hap.2
      refine ⟨fun x hx => ?_, i2, ?_, i4, by simp; omega, by simp; omega, fun b hb => ⟨e, rfl, by simp at hb; rw [hb]⟩, by simp only [heldZ]; omega⟩
      · rcases List.mem_cons.1 hx with q | q
        · subst q; exact he
        · exact i1 x q
      · rw [apart_cons, i3, Bool.and_true]
        cases q : (firstP r (n - e.2)).head? with
        | none => rfl
        | some b =>
          obtain ⟨cc, hc, hb⟩ := i7 b q
          have := hap.1
          rw [hc] at this
          simp only at this ⊢
          rw [mrg_fst e b cc hb]
          exact this
    · have c' : n < e.2 := by omega
      have hr2 : ∀ e ∈ r, 1 ≤ e.2 := fun x hx => (hr x hx).2.2.1
      rw [firstP_small e r n c' h0 hr2, restP_small e r n c' hr2]
      refine ⟨fun x hx => ?_, fun x hx => ?_, ?_, ?_, ?_, by simp, fun b hb => ⟨e, rfl, ?_⟩, ?_⟩
      · split at hx
        · simp at hx; subst hx; exact ⟨he.1, he.2.1, by simp only; omega, by simp only; omega⟩
        · cases hx
      · rcases List.mem_cons.1 hx with q | q
        · subst q
          unfold spotP
          simp only
          split <;> omega
        · have := hr x q; omega
      · split <;> rfl
      · rw [apart_cons, hap.2, Bool.and_true]
        have := hap.1
        cases q : r.head? with
        | none => rfl
        | some b =>
          rw [q] at this
          simp only at this ⊢
          rw [mrg_spot e b n h0 he.1]
          exact this
      · split <;> simp
      · split at hb
        · simp at hb; rw [← hb]
        · cases hb
      · simp only [heldZ]
        have hs : spotP e n = -1 ↔ e.1 = -1 := by
          unfold spotP
          split
          · rename_i q; simp [q]
          · rename_i q; omega
        by_cases q : e.1 = -1
        · rw [if_pos (hs.2 q), if_pos q]
          split <;> simp [heldZ, q]
        · rw [if_neg (fun z => q (hs.1 z)), if_neg q]
          split
          · simp only [heldZ]; rw [if_neg q]; omega
          · simp only [heldZ]; omega
theorem firstP_at {l : List (Int × Int)} {k : Nat} {e : Int × Int} (h : l[k]? = some e) (n : Int) : firstP (l.drop k) n = (if 0 < min n e.2 then [(e.1, min n e.2)] else []) ++ firstP (l.drop (k + 1)) (n - min n e.2) := by
  obtain ⟨a, b⟩ := List.getElem?_eq_some_iff.1 h
  rw [List.drop_eq_getElem_cons a, b]
  rfl
theorem restP_at {l : List (Int × Int)} {k : Nat} {e : Int × Int} (h : l[k]? = some e) (n : Int) : restP (l.drop k) n = (if min n e.2 < e.2 then [(spotP e (min n e.2), e.2 - min n e.2)] else []) ++ restP (l.drop (k + 1)) (n - min n e.2) := by
  obtain ⟨a, b⟩ := List.getElem?_eq_some_iff.1 h
  rw [List.drop_eq_getElem_cons a, b]
  rfl

end Go.Proofs.Ytpkhfdcokcchdaa
