/-
  A region that draws its order, over a class of worlds that an invariant names: a call may make memory if it keeps the invariant.
-/
import Derived.WalkKit
import Derived.Handy
import Derived.Lib.Hide
import Derived.Deep.QuietTactic
import Derived.BigQuiet
import Derived.KernelRfl
namespace Go.Proofs.Ytlneehkkngnjhab
open Go.RowKit

/-- A world of which I holds. -/
structure Cls (I : World → Prop) where
  w : World
  h : I w
theorem wp_region_cls {P : Program} {id : Nat} {Q : Exit → Act → World → Prop} {a : Act} {w : World} {l : List Oper} (I : World → Prop) (hm : P.follows .mixedOrders = true) (hB : Region.lexB .any l.toArray = true) (hI : I w.drew)
    (h : wpQuiet P l.toArray (fun w' => ∃ x : Cls I, w' = x.w) (fun a' => ∀ w', (∃ x : Cls I, w' = x.w) → Q .normal a' w') l a) : (Code.region id l.toArray true).wp P Q a w :=
  wp_region_quiet (C := fun w' => ∃ x : Cls I, w' = x.w) hm hB ⟨⟨w.drew, hI⟩, rfl⟩ (by simpa using h)
/-- A call within the class. -/
theorem cls_call {P : Program} {f : FuncId} {args : Array Value} {I : World → Prop} {v : Value} (x : Cls I) (h : Calls P f args x.w fun e w' => e = .returned v ∧ Below x.w.heap.size x.w w') (k : ∀ w', Below x.w.heap.size x.w w' → I w') :
    Calls P f args x.w fun e w' => e = .returned v ∧ ∃ y : Cls I, w' = y.w :=
  h.mono fun _ w' ⟨he, hb⟩ => ⟨he, ⟨w', k w' hb⟩, rfl⟩

end Go.Proofs.Ytlneehkkngnjhab
