/-
  A region that draws its order, over a class of worlds that an invariant names: a call may make memory if it keeps the invariant.
-/
import Derived.WalkKit
import Derived.Handy
import Derived.Lib.Hide
import Derived.Deep.QuietTactic
import Derived.BigQuiet
import Derived.KernelRfl
namespace Go.Proofs.YtdgcninmpcmdcaaGreat
open Go.RowKit

/-- A world of which I holds. -/
structure Cls (I : World → Prop) where
  w : World
  h : I w
theorem wp_region_cls {P : Program} {id : Nat} {Q : Exit → Act → World → Prop} {a : Act} {w : World} {l : List Oper} (I : World → Prop) (hm : P.follows .mixedOrders = true) (hB : Region.lexB .any l.toArray = true) (hI : I w.drew)
    (h : wpQuiet P l.toArray (fun w' => ∃ x : Cls I, w' = x.w) (fun a' => ∀ w', (∃ x : Cls I, w' = x.w) → Q .normal a' w') l a) : (Code.region id l.toArray true).wp P Q a w :=
  wp_region_quiet (C := fun w' => ∃ x : Cls I, w' = x.w) hm hB ⟨⟨w.drew, hI⟩, rfl⟩ (by simpa using h)
/-- A call within the class. -/
theorem cls_call {P : Program} {f : FuncId} {args : Array Value} {I : World → Prop} {v : Value} (x : Cls I) (h : Calls P f args x.w fun e w' => e = .returned v ∧ Below x.w.heap.size x.w w') (k : ∀ w', Below x.w.heap.size x.w w' → I w') :
    Calls P f args x.w fun e w' => e = .returned v ∧ ∃ y : Cls I, w' = y.w :=
  h.mono fun _ w' ⟨he, hb⟩ => ⟨he, ⟨w', k w' hb⟩, rfl⟩

/-! ### A block that is known whole -/
def Holds (w : World) (b : Nat) (cs : Array Value) (t : TypeId) : Prop := w.heap[b]? = some (.cells cs t (0, 0))
section
variable {w w' : World} {b : Nat} {cs : Array Value} {t : TypeId}
theorem Holds.lt (h : Holds w b cs t) : b < w.heap.size := (Array.getElem?_eq_some_iff.1 h).1
theorem Holds.cell (h : Holds w b cs t) (i : Nat) : w.cell? ⟨b, i, none⟩ = cs[i]? := cell_of_row w b i cs t (0, 0) h
theorem Holds.frozen (h : Holds w b cs t) (i : Nat) : w.frozen? ⟨b, i, none⟩ = false := frozen_of_row w b i cs t h
theorem Holds.below (h : Holds w b cs t) (hb : Below w.heap.size w w') : Holds w' b cs t := (hb.block b h.lt).trans h
theorem Holds.new (w : World) (cs : Array Value) (t : TypeId) : Holds (w.alloc (.cells cs t)) w.heap.size cs t := heap_alloc_new w _
theorem Holds.alloc (h : Holds w b cs t) (o : Obj) : Holds (w.alloc o) b cs t := (Below.heap_alloc w o b h.lt).trans h
theorem Holds.far (h : Holds w b cs t) {a : Addr} (ha : b ≠ a.block) (u : Value) : Holds (w.setCell a u) b cs t := (Below.heap_setCell w a u b ha).trans h
theorem Holds.drew (h : Holds w b cs t) : Holds w.drew b cs t := h
theorem Holds.drewN (h : Holds w b cs t) (n : Nat) : Holds (w.drewN n) b cs t := h
theorem Holds.set (h : Holds w b cs t) (i : Nat) (u : Value) : Holds (w.setCell ⟨b, i, none⟩ u) b (cs.setIfInBounds i u) t := heap_setCell_same w b i cs t u h
theorem Holds.three {x y z : Value} (h : Holds w b #[x, y, z] t) : w.cell? ⟨b, 0, none⟩ = some x ∧ w.cell? ⟨b, 1, none⟩ = some y ∧ w.cell? ⟨b, 2, none⟩ = some z := ⟨h.cell 0, h.cell 1, h.cell 2⟩
theorem Holds.two {x y : Value} (h : Holds w b #[x, y] t) : w.cell? ⟨b, 0, none⟩ = some x ∧ w.cell? ⟨b, 1, none⟩ = some y := ⟨h.cell 0, h.cell 1⟩
end
theorem below_next {w w1 w2 : World} (h : Below w.heap.size w w1) (k : Below w1.heap.size w1 w2) : Below w.heap.size w w2 := h.trans (k.mono h.size)
theorem below_new {w w1 : World} (h : Below w.heap.size w w1) (o : Obj) : Below w.heap.size w (w1.alloc o) := h.alloc h.size o

end Go.Proofs.YtdgcninmpcmdcaaGreat
