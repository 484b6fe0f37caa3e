/-
  No cell of these rows narrows 'for every input' (looked for: loops, veiled, ifaces, maps, wideKeys, modest, calm, conditions, laid).
  DERIVED. THE GIVEN ROWS OF THIS SEAT. 4 by the template 'for every input the law returns true; each argument reads behind the call as it read before'; 0 by the template 'total and deterministic' (their statements: YtlneehkkngnjhabTotals.lean).
  GIVEN WITH THE SEED: the statements are not yours to turn. If you find one false, say at which input.
  Laid BY PROGRAM, IN A SANDBOX (cutbox-rows.mjs): the forced cells as the released guide's own fill.sh prints them over the translation 1aa47afdd81abc6a… (all of the seat's roots in one cut). By AI agents, Wed Nov 11 2026. No macro, syntax, notation, axiom, sorry.
-/
import Derived.Test.YtlneehkkngnjhabChecked
import GoSem.Claim
import GoSem.ClaimJoined
import GoSem.ClaimMapViews
import Derived.JoinedTies
import Derived.KernelRfl
namespace Go.Proofs.Ytlneehkkngnjhab
/- THE CELL 'sum', in the pinned program and in every row, IS THE sha256 OF THE DUMP (.gsa) THAT YtlneehkkngnjhabProg.lean LOADS. Nothing in Lean hashes anything: it is a label: what it is worth is what the hold of that sum in a sandbox is worth. -/
noncomputable def Try.pinned : Pinned := { name := "ytlneehkkngnjhab", sum := "1aa47afdd81abc6a4a68b02238f27029a329517109dc2c637fce7536b21e8332", checked := Try.checked }
namespace Rows
def none {H : Type} : Left H := { results := [], args := [] }

/-- 'gabionlaw06.GapTurns': WHATEVER THE INPUT: true; the input reads as it did. -/
def gapTurnsSpec : ChangeSpec := { name := "gapTurns", fn := fun _ => fun
  | [d1, d2] => { results := [.lit (.bool true)], args := [d1, d2] }
  | _ => none }
def gapTurnsRow : OpenClaim := { program := "ytlneehkkngnjhab", sum := "1aa47afdd81abc6a4a68b02238f27029a329517109dc2c637fce7536b21e8332", func := "gabion/gabionlaw06.GapTurns", spec := "gapTurns", apart := false }
def GapTurnsSaid : Prop := gapTurnsRow.holds Try.pinned (OpenSpec.ofChange gapTurnsSpec)

/-- ITS FALSE NEIGHBOUR: 'it returns false'. Refute it at one input. -/
def gapTurnsWrong : ChangeSpec := { name := "gapTurns", fn := fun _ => fun
  | [d1, d2] => { results := [.lit (.bool false)], args := [d1, d2] }
  | _ => none }
def GapTurnsWrongFalsely : Prop := gapTurnsRow.holds Try.pinned (OpenSpec.ofChange gapTurnsWrong)

/-- 'gabionlaw06.GapLater': WHATEVER THE INPUT: true; the input reads as it did. -/
def gapLaterSpec : ChangeSpec := { name := "gapLater", fn := fun _ => fun
  | [d1, d2] => { results := [.lit (.bool true)], args := [d1, d2] }
  | _ => none }
def gapLaterRow : OpenClaim := { program := "ytlneehkkngnjhab", sum := "1aa47afdd81abc6a4a68b02238f27029a329517109dc2c637fce7536b21e8332", func := "gabion/gabionlaw06.GapLater", spec := "gapLater", apart := false }
def GapLaterSaid : Prop := gapLaterRow.holds Try.pinned (OpenSpec.ofChange gapLaterSpec)

/-- ITS FALSE NEIGHBOUR: 'it returns false'. Refute it at one input. -/
def gapLaterWrong : ChangeSpec := { name := "gapLater", fn := fun _ => fun
  | [d1, d2] => { results := [.lit (.bool false)], args := [d1, d2] }
  | _ => none }
def GapLaterWrongFalsely : Prop := gapLaterRow.holds Try.pinned (OpenSpec.ofChange gapLaterWrong)

/-- 'gabionlaw08.FeistelGoes': WHATEVER THE INPUT: true; the input reads as it did. -/
def feistelGoesSpec : ChangeSpec := { name := "feistelGoes", fn := fun _ => fun
  | [d1, d2, d3] => { results := [.lit (.bool true)], args := [d1, d2, d3] }
  | _ => none }
def feistelGoesRow : OpenClaim := { program := "ytlneehkkngnjhab", sum := "1aa47afdd81abc6a4a68b02238f27029a329517109dc2c637fce7536b21e8332", func := "gabion/gabionlaw08.FeistelGoes", spec := "feistelGoes", unfollowed := true, recurses := true, apart := false }
def FeistelGoesSaid : Prop := feistelGoesRow.holds Try.pinned (OpenSpec.ofChange feistelGoesSpec)

/-- ITS FALSE NEIGHBOUR: 'it returns false'. Refute it at one input. -/
def feistelGoesWrong : ChangeSpec := { name := "feistelGoes", fn := fun _ => fun
  | [d1, d2, d3] => { results := [.lit (.bool false)], args := [d1, d2, d3] }
  | _ => none }
def FeistelGoesWrongFalsely : Prop := feistelGoesRow.holds Try.pinned (OpenSpec.ofChange feistelGoesWrong)

/-- 'gabionlaw08.FeistelOnce': WHATEVER THE INPUT: true; the input reads as it did. -/
def feistelOnceSpec : ChangeSpec := { name := "feistelOnce", fn := fun _ => fun
  | [d1, d2] => { results := [.lit (.bool true)], args := [d1, d2] }
  | _ => none }
def feistelOnceRow : OpenClaim := { program := "ytlneehkkngnjhab", sum := "1aa47afdd81abc6a4a68b02238f27029a329517109dc2c637fce7536b21e8332", func := "gabion/gabionlaw08.FeistelOnce", spec := "feistelOnce", unfollowed := true, recurses := true, apart := false }
def FeistelOnceSaid : Prop := feistelOnceRow.holds Try.pinned (OpenSpec.ofChange feistelOnceSpec)

/-- ITS FALSE NEIGHBOUR: 'it returns false'. Refute it at one input. -/
def feistelOnceWrong : ChangeSpec := { name := "feistelOnce", fn := fun _ => fun
  | [d1, d2] => { results := [.lit (.bool false)], args := [d1, d2] }
  | _ => none }
def FeistelOnceWrongFalsely : Prop := feistelOnceRow.holds Try.pinned (OpenSpec.ofChange feistelOnceWrong)

/- THE SECOND FORM. 'bulk': how many values and letters a reading holds, each counted each time it is reached (what is shared counts as often as it is met; a slice's spare places count too). A statement '..UptoSaid' is the law's where the arguments, and the package variables that the reading takes, are together of bulk at most 1048576: NARROWER than '..Said'. Prove '..Said' where nothing that the law and all that it calls make is longer than what came in: it says more and counts as full. Else prove '..UptoSaid'. A law counts once. -/
mutual
def uptoBulk {H : Type} : DataW H → Nat
  | .lit (.string bytes) => bytes.length + 1
  | .lit _ => 1
  | .nil => 1
  | .ptr d => uptoBulk d + 1
  | .slice elems spare => uptoBulkAll elems + uptoBulkAll spare + 1
  | .agg parts => uptoBulkAll parts + 1
  | .iface _ d => uptoBulk d + 1
  | .map entries => uptoBulkEntries entries + 1
  | .held _ => 1
def uptoBulkAll {H : Type} : List (DataW H) → Nat
  | [] => 0
  | d :: r => uptoBulk d + uptoBulkAll r
def uptoBulkEntries {H : Type} : List (Lit × DataW H) → Nat
  | [] => 0
  | x :: r => uptoBulkEntry x + uptoBulkEntries r
def uptoBulkEntry {H : Type} : Lit × DataW H → Nat
  | (.string bytes, d) => bytes.length + uptoBulk d + 1
  | (_, d) => uptoBulk d + 1
 end
def uptoSmall : (H : Type) → List (DataW H) → Bool := fun _ ds => decide (uptoBulkAll ds ≤ 1048576)
def OpenSpec.upto (s : _root_.Go.ChangeSpec) : _root_.Go.OpenSpec := { _root_.Go.OpenSpec.ofChange s with cond := some uptoSmall }

/-- 'gabionlaw06.GapTurns', WHERE WHAT IT READS IS OF BULK AT MOST 1048576: true; the input reads as it did. -/
def gapTurnsUptoRow : OpenClaim := { program := "ytlneehkkngnjhab", sum := "1aa47afdd81abc6a4a68b02238f27029a329517109dc2c637fce7536b21e8332", func := "gabion/gabionlaw06.GapTurns", spec := "gapTurns", apart := false, narrowed := true }
def GapTurnsUptoSaid : Prop := gapTurnsUptoRow.holds Try.pinned (OpenSpec.upto gapTurnsSpec)

/-- 'gabionlaw06.GapLater', WHERE WHAT IT READS IS OF BULK AT MOST 1048576: true; the input reads as it did. -/
def gapLaterUptoRow : OpenClaim := { program := "ytlneehkkngnjhab", sum := "1aa47afdd81abc6a4a68b02238f27029a329517109dc2c637fce7536b21e8332", func := "gabion/gabionlaw06.GapLater", spec := "gapLater", apart := false, narrowed := true }
def GapLaterUptoSaid : Prop := gapLaterUptoRow.holds Try.pinned (OpenSpec.upto gapLaterSpec)

/-- 'gabionlaw08.FeistelGoes', WHERE WHAT IT READS IS OF BULK AT MOST 1048576: true; the input reads as it did. -/
def feistelGoesUptoRow : OpenClaim := { program := "ytlneehkkngnjhab", sum := "1aa47afdd81abc6a4a68b02238f27029a329517109dc2c637fce7536b21e8332", func := "gabion/gabionlaw08.FeistelGoes", spec := "feistelGoes", unfollowed := true, recurses := true, apart := false, narrowed := true }
def FeistelGoesUptoSaid : Prop := feistelGoesUptoRow.holds Try.pinned (OpenSpec.upto feistelGoesSpec)

/-- 'gabionlaw08.FeistelOnce', WHERE WHAT IT READS IS OF BULK AT MOST 1048576: true; the input reads as it did. -/
def feistelOnceUptoRow : OpenClaim := { program := "ytlneehkkngnjhab", sum := "1aa47afdd81abc6a4a68b02238f27029a329517109dc2c637fce7536b21e8332", func := "gabion/gabionlaw08.FeistelOnce", spec := "feistelOnce", unfollowed := true, recurses := true, apart := false, narrowed := true }
def FeistelOnceUptoSaid : Prop := feistelOnceUptoRow.holds Try.pinned (OpenSpec.upto feistelOnceSpec)

end Rows
end Go.Proofs.Ytlneehkkngnjhab
