/-
  No cell of these rows narrows 'for every input' (looked for: loops, veiled, ifaces, maps, wideKeys, modest, calm, conditions, laid).
  DERIVED. THE GIVEN ROWS OF THIS SEAT. 4 by the template 'for every input the law returns true; each argument reads behind the call as it read before'; 0 by the template 'total and deterministic' (their statements: YtgifjnniohcacaaTotals.lean).
  GIVEN WITH THE SEED: the statements are not yours to turn. If you find one false, say at which input.
  Laid BY PROGRAM, IN A SANDBOX (cutbox-rows.mjs): the forced cells as the released guide's own fill.sh prints them over the translation 61755fdf7f59e8d5… (all of the seat's roots in one cut). By AI agents, Wed Nov 11 2026. No macro, syntax, notation, axiom, sorry.
-/
import Derived.Test.YtgifjnniohcacaaChecked
import GoSem.Claim
import GoSem.ClaimJoined
import GoSem.ClaimMapViews
import Derived.JoinedTies
import Derived.KernelRfl
namespace Go.Proofs.Ytgifjnniohcacaa
/- THE CELL 'sum', in the pinned program and in every row, IS THE sha256 OF THE DUMP (.gsa) THAT YtgifjnniohcacaaProg.lean LOADS. Nothing in Lean hashes anything: it is a label: what it is worth is what the hold of that sum in a sandbox is worth. -/
noncomputable def Try.pinned : Pinned := { name := "ytgifjnniohcacaa", sum := "61755fdf7f59e8d5cfd89c399d57170eba73278ea4e6a34d247597fa37e6cccb", checked := Try.checked }
namespace Rows
def none {H : Type} : Left H := { results := [], args := [] }

/-- 'gabionlaw05.SparePlans': WHATEVER THE INPUT: true; the input reads as it did. -/
def sparePlansSpec : ChangeSpec := { name := "sparePlans", fn := fun _ => fun
  | [d1, d2, d3] => { results := [.lit (.bool true)], args := [d1, d2, d3] }
  | _ => none }
def sparePlansRow : OpenClaim := { program := "ytgifjnniohcacaa", sum := "61755fdf7f59e8d5cfd89c399d57170eba73278ea4e6a34d247597fa37e6cccb", func := "gabion/gabionlaw05.SparePlans", spec := "sparePlans", inPlace := ["internal/abi.NoEscape", "internal/bytealg.MakeNoZero"], unfollowed := true, recurses := true, apart := false }
def SparePlansSaid : Prop := sparePlansRow.holds Try.pinned (OpenSpec.ofChange sparePlansSpec)

/-- ITS FALSE NEIGHBOUR: 'it returns false'. Refute it at one input. -/
def sparePlansWrong : ChangeSpec := { name := "sparePlans", fn := fun _ => fun
  | [d1, d2, d3] => { results := [.lit (.bool false)], args := [d1, d2, d3] }
  | _ => none }
def SparePlansWrongFalsely : Prop := sparePlansRow.holds Try.pinned (OpenSpec.ofChange sparePlansWrong)

/-- 'gabionlaw05.SpareTorn': WHATEVER THE INPUT: true; the input reads as it did. -/
def spareTornSpec : ChangeSpec := { name := "spareTorn", fn := fun _ => fun
  | [d1, d2, d3] => { results := [.lit (.bool true)], args := [d1, d2, d3] }
  | _ => none }
def spareTornRow : OpenClaim := { program := "ytgifjnniohcacaa", sum := "61755fdf7f59e8d5cfd89c399d57170eba73278ea4e6a34d247597fa37e6cccb", func := "gabion/gabionlaw05.SpareTorn", spec := "spareTorn", inPlace := ["internal/abi.NoEscape", "internal/bytealg.MakeNoZero"], unfollowed := true, recurses := true, apart := false }
def SpareTornSaid : Prop := spareTornRow.holds Try.pinned (OpenSpec.ofChange spareTornSpec)

/-- ITS FALSE NEIGHBOUR: 'it returns false'. Refute it at one input. -/
def spareTornWrong : ChangeSpec := { name := "spareTorn", fn := fun _ => fun
  | [d1, d2, d3] => { results := [.lit (.bool false)], args := [d1, d2, d3] }
  | _ => none }
def SpareTornWrongFalsely : Prop := spareTornRow.holds Try.pinned (OpenSpec.ofChange spareTornWrong)

/-- 'gabionlaw05.SpareCount': WHATEVER THE INPUT: true; the input reads as it did. -/
def spareCountSpec : ChangeSpec := { name := "spareCount", fn := fun _ => fun
  | [d1, d2] => { results := [.lit (.bool true)], args := [d1, d2] }
  | _ => none }
def spareCountRow : OpenClaim := { program := "ytgifjnniohcacaa", sum := "61755fdf7f59e8d5cfd89c399d57170eba73278ea4e6a34d247597fa37e6cccb", func := "gabion/gabionlaw05.SpareCount", spec := "spareCount", inPlace := ["internal/abi.NoEscape", "internal/bytealg.MakeNoZero"], unfollowed := true, recurses := true, apart := false }
def SpareCountSaid : Prop := spareCountRow.holds Try.pinned (OpenSpec.ofChange spareCountSpec)

/-- ITS FALSE NEIGHBOUR: 'it returns false'. Refute it at one input. -/
def spareCountWrong : ChangeSpec := { name := "spareCount", fn := fun _ => fun
  | [d1, d2] => { results := [.lit (.bool false)], args := [d1, d2] }
  | _ => none }
def SpareCountWrongFalsely : Prop := spareCountRow.holds Try.pinned (OpenSpec.ofChange spareCountWrong)

/-- 'gabionlaw05.SpareAgain': WHATEVER THE INPUT: true; the input reads as it did. -/
def spareAgainSpec : ChangeSpec := { name := "spareAgain", fn := fun _ => fun
  | [d1, d2] => { results := [.lit (.bool true)], args := [d1, d2] }
  | _ => none }
def spareAgainRow : OpenClaim := { program := "ytgifjnniohcacaa", sum := "61755fdf7f59e8d5cfd89c399d57170eba73278ea4e6a34d247597fa37e6cccb", func := "gabion/gabionlaw05.SpareAgain", spec := "spareAgain", inPlace := ["internal/abi.NoEscape", "internal/bytealg.MakeNoZero"], unfollowed := true, recurses := true, apart := false }
def SpareAgainSaid : Prop := spareAgainRow.holds Try.pinned (OpenSpec.ofChange spareAgainSpec)

/-- ITS FALSE NEIGHBOUR: 'it returns false'. Refute it at one input. -/
def spareAgainWrong : ChangeSpec := { name := "spareAgain", fn := fun _ => fun
  | [d1, d2] => { results := [.lit (.bool false)], args := [d1, d2] }
  | _ => none }
def SpareAgainWrongFalsely : Prop := spareAgainRow.holds Try.pinned (OpenSpec.ofChange spareAgainWrong)

/- THE SECOND FORM. 'bulk': how many values and letters a reading holds, each counted each time it is reached (what is shared counts as often as it is met; a slice's spare places count too). A statement '..UptoSaid' is the law's where the arguments, and the package variables that the reading takes, are together of bulk at most 1048576: NARROWER than '..Said'. Prove '..Said' where nothing that the law and all that it calls make is longer than what came in: it says more and counts as full. Else prove '..UptoSaid'. A law counts once. -/
mutual
def uptoBulk {H : Type} : DataW H → Nat
  | .lit (.string bytes) => bytes.length + 1
  | .lit _ => 1
  | .nil => 1
  | .ptr d => uptoBulk d + 1
  | .slice elems spare => uptoBulkAll elems + uptoBulkAll spare + 1
  | .agg parts => uptoBulkAll parts + 1
  | .iface _ d => uptoBulk d + 1
  | .map entries => uptoBulkEntries entries + 1
  | .held _ => 1
def uptoBulkAll {H : Type} : List (DataW H) → Nat
  | [] => 0
  | d :: r => uptoBulk d + uptoBulkAll r
def uptoBulkEntries {H : Type} : List (Lit × DataW H) → Nat
  | [] => 0
  | x :: r => uptoBulkEntry x + uptoBulkEntries r
def uptoBulkEntry {H : Type} : Lit × DataW H → Nat
  | (.string bytes, d) => bytes.length + uptoBulk d + 1
  | (_, d) => uptoBulk d + 1
 end
def uptoSmall : (H : Type) → List (DataW H) → Bool := fun _ ds => decide (uptoBulkAll ds ≤ 1048576)
def OpenSpec.upto (s : _root_.Go.ChangeSpec) : _root_.Go.OpenSpec := { _root_.Go.OpenSpec.ofChange s with cond := some uptoSmall }

/-- 'gabionlaw05.SparePlans', WHERE WHAT IT READS IS OF BULK AT MOST 1048576: true; the input reads as it did. -/
def sparePlansUptoRow : OpenClaim := { program := "ytgifjnniohcacaa", sum := "61755fdf7f59e8d5cfd89c399d57170eba73278ea4e6a34d247597fa37e6cccb", func := "gabion/gabionlaw05.SparePlans", spec := "sparePlans", inPlace := ["internal/abi.NoEscape", "internal/bytealg.MakeNoZero"], unfollowed := true, recurses := true, apart := false, narrowed := true }
def SparePlansUptoSaid : Prop := sparePlansUptoRow.holds Try.pinned (OpenSpec.upto sparePlansSpec)

/-- 'gabionlaw05.SpareTorn', WHERE WHAT IT READS IS OF BULK AT MOST 1048576: true; the input reads as it did. -/
def spareTornUptoRow : OpenClaim := { program := "ytgifjnniohcacaa", sum := "61755fdf7f59e8d5cfd89c399d57170eba73278ea4e6a34d247597fa37e6cccb", func := "gabion/gabionlaw05.SpareTorn", spec := "spareTorn", inPlace := ["internal/abi.NoEscape", "internal/bytealg.MakeNoZero"], unfollowed := true, recurses := true, apart := false, narrowed := true }
def SpareTornUptoSaid : Prop := spareTornUptoRow.holds Try.pinned (OpenSpec.upto spareTornSpec)

/-- 'gabionlaw05.SpareCount', WHERE WHAT IT READS IS OF BULK AT MOST 1048576: true; the input reads as it did. -/
def spareCountUptoRow : OpenClaim := { program := "ytgifjnniohcacaa", sum := "61755fdf7f59e8d5cfd89c399d57170eba73278ea4e6a34d247597fa37e6cccb", func := "gabion/gabionlaw05.SpareCount", spec := "spareCount", inPlace := ["internal/abi.NoEscape", "internal/bytealg.MakeNoZero"], unfollowed := true, recurses := true, apart := false, narrowed := true }
def SpareCountUptoSaid : Prop := spareCountUptoRow.holds Try.pinned (OpenSpec.upto spareCountSpec)

/-- 'gabionlaw05.SpareAgain', WHERE WHAT IT READS IS OF BULK AT MOST 1048576: true; the input reads as it did. -/
def spareAgainUptoRow : OpenClaim := { program := "ytgifjnniohcacaa", sum := "61755fdf7f59e8d5cfd89c399d57170eba73278ea4e6a34d247597fa37e6cccb", func := "gabion/gabionlaw05.SpareAgain", spec := "spareAgain", inPlace := ["internal/abi.NoEscape", "internal/bytealg.MakeNoZero"], unfollowed := true, recurses := true, apart := false, narrowed := true }
def SpareAgainUptoSaid : Prop := spareAgainUptoRow.holds Try.pinned (OpenSpec.upto spareAgainSpec)

end Rows
end Go.Proofs.Ytgifjnniohcacaa
