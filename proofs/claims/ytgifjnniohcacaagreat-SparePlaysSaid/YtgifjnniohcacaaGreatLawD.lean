/-
  The walk of LeFields.
-/
import Derived.Test.YtgifjnniohcacaaGreatLawC
import Derived.Deep.QuietTactic
import Derived.BigQuiet
namespace Go.Proofs.YtgifjnniohcacaaGreat
open Go.RowKit

theorem Below.drewN_ {B : Nat} {a w : World} (h : Below B a w) (n : Nat) : Below B a (w.drewN n) := ⟨h.os, h.tape, h.output, h.size, h.block⟩
theorem calls_flip {P : Program} {f : FuncId} {args : Array Value} {w : World} {x : Ending} (h : Calls P f args w fun e w' => e = x ∧ w = w') : Calls P f args w fun e w' => e = x ∧ w' = w :=
  h.mono fun _ _ ⟨he, hw⟩ => ⟨he, hw.symm⟩

end Go.Proofs.YtgifjnniohcacaaGreat
