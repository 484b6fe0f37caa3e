/-
  No cell of these rows narrows 'for every input' (looked for: loops, veiled, ifaces, maps, wideKeys, modest, calm, conditions, laid).
  DERIVED. THE GIVEN ROWS OF THIS SEAT. 5 by the template 'for every input the law returns true; each argument reads behind the call as it read before'; 0 by the template 'total and deterministic' (their statements: YtjbhallhmnahbaaGreatTotals.lean).
  GIVEN WITH THE SEED: the statements are not yours to turn. If you find one false, say at which input.
  Laid BY PROGRAM, IN A SANDBOX (cutbox-rows.mjs): the forced cells as the released guide's own fill.sh prints them over the translation ff467d82d3e0c5d8… (all of the seat's roots in one cut). By AI agents, Wed Nov 11 2026. No macro, syntax, notation, axiom, sorry.
-/
import Derived.Test.YtjbhallhmnahbaaGreatChecked
import GoSem.Claim
import GoSem.ClaimJoined
import GoSem.ClaimMapViews
import Derived.JoinedTies
import Derived.KernelRfl
namespace Go.Proofs.YtjbhallhmnahbaaGreat
/- THE CELL 'sum', in the pinned program and in every row, IS THE sha256 OF THE DUMP (.gsa) THAT YtjbhallhmnahbaaGreatProg.lean LOADS. Nothing in Lean hashes anything: it is a label: what it is worth is what the hold of that sum in a sandbox is worth. -/
noncomputable def Tryz.pinned : Pinned := { name := "ytjbhallhmnahbaagreat", sum := "ff467d82d3e0c5d8e7295b05b3332f064df7bbdf16ded46d470e736ce494c1a6", checked := Tryz.checked }
namespace Rows
def none {H : Type} : Left H := { results := [], args := [] }

/-- 'gabionlaw09.FlatPlays': WHATEVER THE INPUT: true; the input reads as it did. -/
def flatPlaysSpec : ChangeSpec := { name := "flatPlays", fn := fun _ => fun
  | [d1, d2] => { results := [.lit (.bool true)], args := [d1, d2] }
  | _ => none }
def flatPlaysRow : OpenClaim := { program := "ytjbhallhmnahbaagreat", sum := "ff467d82d3e0c5d8e7295b05b3332f064df7bbdf16ded46d470e736ce494c1a6", func := "gabion/gabionlaw09.FlatPlays", spec := "flatPlays", inPlace := ["internal/abi.NoEscape", "internal/bytealg.MakeNoZero"], unfollowed := true, recurses := true, apart := false }
def FlatPlaysSaid : Prop := flatPlaysRow.holds Tryz.pinned (OpenSpec.ofChange flatPlaysSpec)

/-- ITS FALSE NEIGHBOUR: 'it returns false'. Refute it at one input. -/
def flatPlaysWrong : ChangeSpec := { name := "flatPlays", fn := fun _ => fun
  | [d1, d2] => { results := [.lit (.bool false)], args := [d1, d2] }
  | _ => none }
def FlatPlaysWrongFalsely : Prop := flatPlaysRow.holds Tryz.pinned (OpenSpec.ofChange flatPlaysWrong)

/-- 'gabionlaw09.FlatMakes': WHATEVER THE INPUT: true; the input reads as it did. -/
def flatMakesSpec : ChangeSpec := { name := "flatMakes", fn := fun _ => fun
  | [d1, d2, d3] => { results := [.lit (.bool true)], args := [d1, d2, d3] }
  | _ => none }
def flatMakesRow : OpenClaim := { program := "ytjbhallhmnahbaagreat", sum := "ff467d82d3e0c5d8e7295b05b3332f064df7bbdf16ded46d470e736ce494c1a6", func := "gabion/gabionlaw09.FlatMakes", spec := "flatMakes", inPlace := ["internal/abi.NoEscape", "internal/bytealg.MakeNoZero"], unfollowed := true, recurses := true, apart := false }
def FlatMakesSaid : Prop := flatMakesRow.holds Tryz.pinned (OpenSpec.ofChange flatMakesSpec)

/-- ITS FALSE NEIGHBOUR: 'it returns false'. Refute it at one input. -/
def flatMakesWrong : ChangeSpec := { name := "flatMakes", fn := fun _ => fun
  | [d1, d2, d3] => { results := [.lit (.bool false)], args := [d1, d2, d3] }
  | _ => none }
def FlatMakesWrongFalsely : Prop := flatMakesRow.holds Tryz.pinned (OpenSpec.ofChange flatMakesWrong)

/-- 'gabionlaw09.FlatKeeps': WHATEVER THE INPUT: true; the input reads as it did. -/
def flatKeepsSpec : ChangeSpec := { name := "flatKeeps", fn := fun _ => fun
  | [d1, d2] => { results := [.lit (.bool true)], args := [d1, d2] }
  | _ => none }
def flatKeepsRow : OpenClaim := { program := "ytjbhallhmnahbaagreat", sum := "ff467d82d3e0c5d8e7295b05b3332f064df7bbdf16ded46d470e736ce494c1a6", func := "gabion/gabionlaw09.FlatKeeps", spec := "flatKeeps", inPlace := ["internal/abi.NoEscape", "internal/bytealg.MakeNoZero"], unfollowed := true, recurses := true, apart := false }
def FlatKeepsSaid : Prop := flatKeepsRow.holds Tryz.pinned (OpenSpec.ofChange flatKeepsSpec)

/-- ITS FALSE NEIGHBOUR: 'it returns false'. Refute it at one input. -/
def flatKeepsWrong : ChangeSpec := { name := "flatKeeps", fn := fun _ => fun
  | [d1, d2] => { results := [.lit (.bool false)], args := [d1, d2] }
  | _ => none }
def FlatKeepsWrongFalsely : Prop := flatKeepsRow.holds Tryz.pinned (OpenSpec.ofChange flatKeepsWrong)

/-- 'gabionlaw09.FlatTorn': WHATEVER THE INPUT: true; the input reads as it did. -/
def flatTornSpec : ChangeSpec := { name := "flatTorn", fn := fun _ => fun
  | [d1, d2, d3] => { results := [.lit (.bool true)], args := [d1, d2, d3] }
  | _ => none }
def flatTornRow : OpenClaim := { program := "ytjbhallhmnahbaagreat", sum := "ff467d82d3e0c5d8e7295b05b3332f064df7bbdf16ded46d470e736ce494c1a6", func := "gabion/gabionlaw09.FlatTorn", spec := "flatTorn", inPlace := ["internal/abi.NoEscape", "internal/bytealg.MakeNoZero"], unfollowed := true, recurses := true, apart := false }
def FlatTornSaid : Prop := flatTornRow.holds Tryz.pinned (OpenSpec.ofChange flatTornSpec)

/-- ITS FALSE NEIGHBOUR: 'it returns false'. Refute it at one input. -/
def flatTornWrong : ChangeSpec := { name := "flatTorn", fn := fun _ => fun
  | [d1, d2, d3] => { results := [.lit (.bool false)], args := [d1, d2, d3] }
  | _ => none }
def FlatTornWrongFalsely : Prop := flatTornRow.holds Tryz.pinned (OpenSpec.ofChange flatTornWrong)

/-- 'gabionlaw09.FlatAlike': WHATEVER THE INPUT: true; the input reads as it did. -/
def flatAlikeSpec : ChangeSpec := { name := "flatAlike", fn := fun _ => fun
  | [d1, d2, d3] => { results := [.lit (.bool true)], args := [d1, d2, d3] }
  | _ => none }
def flatAlikeRow : OpenClaim := { program := "ytjbhallhmnahbaagreat", sum := "ff467d82d3e0c5d8e7295b05b3332f064df7bbdf16ded46d470e736ce494c1a6", func := "gabion/gabionlaw09.FlatAlike", spec := "flatAlike", inPlace := ["internal/abi.NoEscape", "internal/bytealg.MakeNoZero"], unfollowed := true, recurses := true, apart := false }
def FlatAlikeSaid : Prop := flatAlikeRow.holds Tryz.pinned (OpenSpec.ofChange flatAlikeSpec)

/-- ITS FALSE NEIGHBOUR: 'it returns false'. Refute it at one input. -/
def flatAlikeWrong : ChangeSpec := { name := "flatAlike", fn := fun _ => fun
  | [d1, d2, d3] => { results := [.lit (.bool false)], args := [d1, d2, d3] }
  | _ => none }
def FlatAlikeWrongFalsely : Prop := flatAlikeRow.holds Tryz.pinned (OpenSpec.ofChange flatAlikeWrong)

/- THE SECOND FORM. 'bulk': how many values and letters a reading holds, each counted each time it is reached (what is shared counts as often as it is met; a slice's spare places count too). A statement '..UptoSaid' is the law's where the arguments, and the package variables that the reading takes, are together of bulk at most 1048576: NARROWER than '..Said'. Prove '..Said' where nothing that the law and all that it calls make is longer than what came in: it says more and counts as full. Else prove '..UptoSaid'. A law counts once. -/
mutual
def uptoBulk {H : Type} : DataW H → Nat
  | .lit (.string bytes) => bytes.length + 1
  | .lit _ => 1
  | .nil => 1
  | .ptr d => uptoBulk d + 1
  | .slice elems spare => uptoBulkAll elems + uptoBulkAll spare + 1
  | .agg parts => uptoBulkAll parts + 1
  | .iface _ d => uptoBulk d + 1
  | .map entries => uptoBulkEntries entries + 1
  | .held _ => 1
def uptoBulkAll {H : Type} : List (DataW H) → Nat
  | [] => 0
  | d :: r => uptoBulk d + uptoBulkAll r
def uptoBulkEntries {H : Type} : List (Lit × DataW H) → Nat
  | [] => 0
  | x :: r => uptoBulkEntry x + uptoBulkEntries r
def uptoBulkEntry {H : Type} : Lit × DataW H → Nat
  | (.string bytes, d) => bytes.length + uptoBulk d + 1
  | (_, d) => uptoBulk d + 1
 end
def uptoSmall : (H : Type) → List (DataW H) → Bool := fun _ ds => decide (uptoBulkAll ds ≤ 1048576)
def OpenSpec.upto (s : _root_.Go.ChangeSpec) : _root_.Go.OpenSpec := { _root_.Go.OpenSpec.ofChange s with cond := some uptoSmall }

/-- 'gabionlaw09.FlatPlays', WHERE WHAT IT READS IS OF BULK AT MOST 1048576: true; the input reads as it did. -/
def flatPlaysUptoRow : OpenClaim := { program := "ytjbhallhmnahbaagreat", sum := "ff467d82d3e0c5d8e7295b05b3332f064df7bbdf16ded46d470e736ce494c1a6", func := "gabion/gabionlaw09.FlatPlays", spec := "flatPlays", inPlace := ["internal/abi.NoEscape", "internal/bytealg.MakeNoZero"], unfollowed := true, recurses := true, apart := false, narrowed := true }
def FlatPlaysUptoSaid : Prop := flatPlaysUptoRow.holds Tryz.pinned (OpenSpec.upto flatPlaysSpec)

/-- 'gabionlaw09.FlatMakes', WHERE WHAT IT READS IS OF BULK AT MOST 1048576: true; the input reads as it did. -/
def flatMakesUptoRow : OpenClaim := { program := "ytjbhallhmnahbaagreat", sum := "ff467d82d3e0c5d8e7295b05b3332f064df7bbdf16ded46d470e736ce494c1a6", func := "gabion/gabionlaw09.FlatMakes", spec := "flatMakes", inPlace := ["internal/abi.NoEscape", "internal/bytealg.MakeNoZero"], unfollowed := true, recurses := true, apart := false, narrowed := true }
def FlatMakesUptoSaid : Prop := flatMakesUptoRow.holds Tryz.pinned (OpenSpec.upto flatMakesSpec)

/-- 'gabionlaw09.FlatKeeps', WHERE WHAT IT READS IS OF BULK AT MOST 1048576: true; the input reads as it did. -/
def flatKeepsUptoRow : OpenClaim := { program := "ytjbhallhmnahbaagreat", sum := "ff467d82d3e0c5d8e7295b05b3332f064df7bbdf16ded46d470e736ce494c1a6", func := "gabion/gabionlaw09.FlatKeeps", spec := "flatKeeps", inPlace := ["internal/abi.NoEscape", "internal/bytealg.MakeNoZero"], unfollowed := true, recurses := true, apart := false, narrowed := true }
def FlatKeepsUptoSaid : Prop := flatKeepsUptoRow.holds Tryz.pinned (OpenSpec.upto flatKeepsSpec)

/-- 'gabionlaw09.FlatTorn', WHERE WHAT IT READS IS OF BULK AT MOST 1048576: true; the input reads as it did. -/
def flatTornUptoRow : OpenClaim := { program := "ytjbhallhmnahbaagreat", sum := "ff467d82d3e0c5d8e7295b05b3332f064df7bbdf16ded46d470e736ce494c1a6", func := "gabion/gabionlaw09.FlatTorn", spec := "flatTorn", inPlace := ["internal/abi.NoEscape", "internal/bytealg.MakeNoZero"], unfollowed := true, recurses := true, apart := false, narrowed := true }
def FlatTornUptoSaid : Prop := flatTornUptoRow.holds Tryz.pinned (OpenSpec.upto flatTornSpec)

/-- 'gabionlaw09.FlatAlike', WHERE WHAT IT READS IS OF BULK AT MOST 1048576: true; the input reads as it did. -/
def flatAlikeUptoRow : OpenClaim := { program := "ytjbhallhmnahbaagreat", sum := "ff467d82d3e0c5d8e7295b05b3332f064df7bbdf16ded46d470e736ce494c1a6", func := "gabion/gabionlaw09.FlatAlike", spec := "flatAlike", inPlace := ["internal/abi.NoEscape", "internal/bytealg.MakeNoZero"], unfollowed := true, recurses := true, apart := false, narrowed := true }
def FlatAlikeUptoSaid : Prop := flatAlikeUptoRow.holds Tryz.pinned (OpenSpec.upto flatAlikeSpec)

end Rows
end Go.Proofs.YtjbhallhmnahbaaGreat
