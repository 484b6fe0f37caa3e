/-
  No cell of these rows narrows 'for every input' (looked for: loops, veiled, ifaces, maps, wideKeys, modest, calm, conditions, laid).
  DERIVED. THE GIVEN ROWS OF THIS SEAT. 12 by the template 'for every input the law returns true; each argument reads behind the call as it read before'; 0 by the template 'total and deterministic' (their statements: YtpkhfdcokcchdaaTotals.lean).
  GIVEN WITH THE SEED: the statements are not yours to turn. If you find one false, say at which input.
  Laid BY PROGRAM, IN A SANDBOX (cutbox-rows.mjs): the forced cells as the released guide's own fill.sh prints them over the translation 7fdd5c747c66a3b7… (all of the seat's roots in one cut). By AI agents, Wed Nov 11 2026. No macro, syntax, notation, axiom, sorry.
-/
import Derived.Test.YtpkhfdcokcchdaaChecked
import GoSem.Claim
import GoSem.ClaimJoined
import GoSem.ClaimMapViews
import Derived.JoinedTies
import Derived.KernelRfl
namespace Go.Proofs.Ytpkhfdcokcchdaa
/- THE CELL 'sum', in the pinned program and in every row, IS THE sha256 OF THE DUMP (.gsa) THAT YtpkhfdcokcchdaaProg.lean LOADS. Nothing in Lean hashes anything: it is a label: what it is worth is what the hold of that sum in a sandbox is worth. -/
noncomputable def Try.pinned : Pinned := { name := "ytpkhfdcokcchdaa", sum := "7fdd5c747c66a3b7423c2f25fce306200070ab5783448e9c4afc275841d5431f", checked := Try.checked }
namespace Rows
def none {H : Type} : Left H := { results := [], args := [] }

/-- 'gabionlaw14.AllocPlays': WHATEVER THE INPUT: true; the input reads as it did. -/
def allocPlaysSpec : ChangeSpec := { name := "allocPlays", fn := fun _ => fun
  | [d1, d2] => { results := [.lit (.bool true)], args := [d1, d2] }
  | _ => none }
def allocPlaysRow : OpenClaim := { program := "ytpkhfdcokcchdaa", sum := "7fdd5c747c66a3b7423c2f25fce306200070ab5783448e9c4afc275841d5431f", func := "gabion/gabionlaw14.AllocPlays", spec := "allocPlays", unfollowed := true, recurses := true, apart := false }
def AllocPlaysSaid : Prop := allocPlaysRow.holds Try.pinned (OpenSpec.ofChange allocPlaysSpec)

/-- ITS FALSE NEIGHBOUR: 'it returns false'. Refute it at one input. -/
def allocPlaysWrong : ChangeSpec := { name := "allocPlays", fn := fun _ => fun
  | [d1, d2] => { results := [.lit (.bool false)], args := [d1, d2] }
  | _ => none }
def AllocPlaysWrongFalsely : Prop := allocPlaysRow.holds Try.pinned (OpenSpec.ofChange allocPlaysWrong)

/-- 'gabionlaw14.AllocMakes': WHATEVER THE INPUT: true; the input reads as it did. -/
def allocMakesSpec : ChangeSpec := { name := "allocMakes", fn := fun _ => fun
  | [d] => { results := [.lit (.bool true)], args := [d] }
  | _ => none }
def allocMakesRow : OpenClaim := { program := "ytpkhfdcokcchdaa", sum := "7fdd5c747c66a3b7423c2f25fce306200070ab5783448e9c4afc275841d5431f", func := "gabion/gabionlaw14.AllocMakes", spec := "allocMakes", unfollowed := true, recurses := true, apart := false }
def AllocMakesSaid : Prop := allocMakesRow.holds Try.pinned (OpenSpec.ofChange allocMakesSpec)

/-- ITS FALSE NEIGHBOUR: 'it returns false'. Refute it at one input. -/
def allocMakesWrong : ChangeSpec := { name := "allocMakes", fn := fun _ => fun
  | [d] => { results := [.lit (.bool false)], args := [d] }
  | _ => none }
def AllocMakesWrongFalsely : Prop := allocMakesRow.holds Try.pinned (OpenSpec.ofChange allocMakesWrong)

/-- 'gabionlaw14.AllocBack': WHATEVER THE INPUT: true; the input reads as it did. -/
def allocBackSpec : ChangeSpec := { name := "allocBack", fn := fun _ => fun
  | [d1, d2] => { results := [.lit (.bool true)], args := [d1, d2] }
  | _ => none }
def allocBackRow : OpenClaim := { program := "ytpkhfdcokcchdaa", sum := "7fdd5c747c66a3b7423c2f25fce306200070ab5783448e9c4afc275841d5431f", func := "gabion/gabionlaw14.AllocBack", spec := "allocBack", unfollowed := true, recurses := true, apart := false }
def AllocBackSaid : Prop := allocBackRow.holds Try.pinned (OpenSpec.ofChange allocBackSpec)

/-- ITS FALSE NEIGHBOUR: 'it returns false'. Refute it at one input. -/
def allocBackWrong : ChangeSpec := { name := "allocBack", fn := fun _ => fun
  | [d1, d2] => { results := [.lit (.bool false)], args := [d1, d2] }
  | _ => none }
def AllocBackWrongFalsely : Prop := allocBackRow.holds Try.pinned (OpenSpec.ofChange allocBackWrong)

/-- 'gabionlaw14.AllocAll': WHATEVER THE INPUT: true; the input reads as it did. -/
def allocAllSpec : ChangeSpec := { name := "allocAll", fn := fun _ => fun
  | [d] => { results := [.lit (.bool true)], args := [d] }
  | _ => none }
def allocAllRow : OpenClaim := { program := "ytpkhfdcokcchdaa", sum := "7fdd5c747c66a3b7423c2f25fce306200070ab5783448e9c4afc275841d5431f", func := "gabion/gabionlaw14.AllocAll", spec := "allocAll", unfollowed := true, recurses := true, apart := false }
def AllocAllSaid : Prop := allocAllRow.holds Try.pinned (OpenSpec.ofChange allocAllSpec)

/-- ITS FALSE NEIGHBOUR: 'it returns false'. Refute it at one input. -/
def allocAllWrong : ChangeSpec := { name := "allocAll", fn := fun _ => fun
  | [d] => { results := [.lit (.bool false)], args := [d] }
  | _ => none }
def AllocAllWrongFalsely : Prop := allocAllRow.holds Try.pinned (OpenSpec.ofChange allocAllWrong)

/-- 'gabionlaw24.LockPlays': WHATEVER THE INPUT: true; the input reads as it did. -/
def lockPlaysSpec : ChangeSpec := { name := "lockPlays", fn := fun _ => fun
  | [d1, d2] => { results := [.lit (.bool true)], args := [d1, d2] }
  | _ => none }
def lockPlaysRow : OpenClaim := { program := "ytpkhfdcokcchdaa", sum := "7fdd5c747c66a3b7423c2f25fce306200070ab5783448e9c4afc275841d5431f", func := "gabion/gabionlaw24.LockPlays", spec := "lockPlays", unfollowed := true, recurses := true, apart := false }
def LockPlaysSaid : Prop := lockPlaysRow.holds Try.pinned (OpenSpec.ofChange lockPlaysSpec)

/-- ITS FALSE NEIGHBOUR: 'it returns false'. Refute it at one input. -/
def lockPlaysWrong : ChangeSpec := { name := "lockPlays", fn := fun _ => fun
  | [d1, d2] => { results := [.lit (.bool false)], args := [d1, d2] }
  | _ => none }
def LockPlaysWrongFalsely : Prop := lockPlaysRow.holds Try.pinned (OpenSpec.ofChange lockPlaysWrong)

/-- 'gabionlaw24.LockMakes': WHATEVER THE INPUT: true; the input reads as it did. -/
def lockMakesSpec : ChangeSpec := { name := "lockMakes", fn := fun _ => fun
  | [d1, d2] => { results := [.lit (.bool true)], args := [d1, d2] }
  | _ => none }
def lockMakesRow : OpenClaim := { program := "ytpkhfdcokcchdaa", sum := "7fdd5c747c66a3b7423c2f25fce306200070ab5783448e9c4afc275841d5431f", func := "gabion/gabionlaw24.LockMakes", spec := "lockMakes", unfollowed := true, recurses := true, apart := false }
def LockMakesSaid : Prop := lockMakesRow.holds Try.pinned (OpenSpec.ofChange lockMakesSpec)

/-- ITS FALSE NEIGHBOUR: 'it returns false'. Refute it at one input. -/
def lockMakesWrong : ChangeSpec := { name := "lockMakes", fn := fun _ => fun
  | [d1, d2] => { results := [.lit (.bool false)], args := [d1, d2] }
  | _ => none }
def LockMakesWrongFalsely : Prop := lockMakesRow.holds Try.pinned (OpenSpec.ofChange lockMakesWrong)

/-- 'gabionlaw24.LockRounds': WHATEVER THE INPUT: true; the input reads as it did. -/
def lockRoundsSpec : ChangeSpec := { name := "lockRounds", fn := fun _ => fun
  | [d1, d2] => { results := [.lit (.bool true)], args := [d1, d2] }
  | _ => none }
def lockRoundsRow : OpenClaim := { program := "ytpkhfdcokcchdaa", sum := "7fdd5c747c66a3b7423c2f25fce306200070ab5783448e9c4afc275841d5431f", func := "gabion/gabionlaw24.LockRounds", spec := "lockRounds", unfollowed := true, recurses := true, apart := false }
def LockRoundsSaid : Prop := lockRoundsRow.holds Try.pinned (OpenSpec.ofChange lockRoundsSpec)

/-- ITS FALSE NEIGHBOUR: 'it returns false'. Refute it at one input. -/
def lockRoundsWrong : ChangeSpec := { name := "lockRounds", fn := fun _ => fun
  | [d1, d2] => { results := [.lit (.bool false)], args := [d1, d2] }
  | _ => none }
def LockRoundsWrongFalsely : Prop := lockRoundsRow.holds Try.pinned (OpenSpec.ofChange lockRoundsWrong)

/-- 'gabionlaw15.ExtMaps': WHATEVER THE INPUT: true; the input reads as it did. -/
def extMapsSpec : ChangeSpec := { name := "extMaps", fn := fun _ => fun
  | [d1, d2, d3] => { results := [.lit (.bool true)], args := [d1, d2, d3] }
  | _ => none }
def extMapsRow : OpenClaim := { program := "ytpkhfdcokcchdaa", sum := "7fdd5c747c66a3b7423c2f25fce306200070ab5783448e9c4afc275841d5431f", func := "gabion/gabionlaw15.ExtMaps", spec := "extMaps", inPlace := ["internal/abi.NoEscape"], apart := false }
def ExtMapsSaid : Prop := extMapsRow.holds Try.pinned (OpenSpec.ofChange extMapsSpec)

/-- ITS FALSE NEIGHBOUR: 'it returns false'. Refute it at one input. -/
def extMapsWrong : ChangeSpec := { name := "extMaps", fn := fun _ => fun
  | [d1, d2, d3] => { results := [.lit (.bool false)], args := [d1, d2, d3] }
  | _ => none }
def ExtMapsWrongFalsely : Prop := extMapsRow.holds Try.pinned (OpenSpec.ofChange extMapsWrong)

/-- 'gabionlaw15.ExtGrows': WHATEVER THE INPUT: true; the input reads as it did. -/
def extGrowsSpec : ChangeSpec := { name := "extGrows", fn := fun _ => fun
  | [d1, d2, d3] => { results := [.lit (.bool true)], args := [d1, d2, d3] }
  | _ => none }
def extGrowsRow : OpenClaim := { program := "ytpkhfdcokcchdaa", sum := "7fdd5c747c66a3b7423c2f25fce306200070ab5783448e9c4afc275841d5431f", func := "gabion/gabionlaw15.ExtGrows", spec := "extGrows", unfollowed := true, recurses := true, apart := false }
def ExtGrowsSaid : Prop := extGrowsRow.holds Try.pinned (OpenSpec.ofChange extGrowsSpec)

/-- ITS FALSE NEIGHBOUR: 'it returns false'. Refute it at one input. -/
def extGrowsWrong : ChangeSpec := { name := "extGrows", fn := fun _ => fun
  | [d1, d2, d3] => { results := [.lit (.bool false)], args := [d1, d2, d3] }
  | _ => none }
def ExtGrowsWrongFalsely : Prop := extGrowsRow.holds Try.pinned (OpenSpec.ofChange extGrowsWrong)

/-- 'gabionlaw15.ExtBack': WHATEVER THE INPUT: true; the input reads as it did. -/
def extBackSpec : ChangeSpec := { name := "extBack", fn := fun _ => fun
  | [d1, d2, d3] => { results := [.lit (.bool true)], args := [d1, d2, d3] }
  | _ => none }
def extBackRow : OpenClaim := { program := "ytpkhfdcokcchdaa", sum := "7fdd5c747c66a3b7423c2f25fce306200070ab5783448e9c4afc275841d5431f", func := "gabion/gabionlaw15.ExtBack", spec := "extBack", unfollowed := true, recurses := true, apart := false }
def ExtBackSaid : Prop := extBackRow.holds Try.pinned (OpenSpec.ofChange extBackSpec)

/-- ITS FALSE NEIGHBOUR: 'it returns false'. Refute it at one input. -/
def extBackWrong : ChangeSpec := { name := "extBack", fn := fun _ => fun
  | [d1, d2, d3] => { results := [.lit (.bool false)], args := [d1, d2, d3] }
  | _ => none }
def ExtBackWrongFalsely : Prop := extBackRow.holds Try.pinned (OpenSpec.ofChange extBackWrong)

/-- 'gabionlaw15.ExtParts': WHATEVER THE INPUT: true; the input reads as it did. -/
def extPartsSpec : ChangeSpec := { name := "extParts", fn := fun _ => fun
  | [d] => { results := [.lit (.bool true)], args := [d] }
  | _ => none }
def extPartsRow : OpenClaim := { program := "ytpkhfdcokcchdaa", sum := "7fdd5c747c66a3b7423c2f25fce306200070ab5783448e9c4afc275841d5431f", func := "gabion/gabionlaw15.ExtParts", spec := "extParts", inPlace := ["internal/abi.NoEscape"], apart := false }
def ExtPartsSaid : Prop := extPartsRow.holds Try.pinned (OpenSpec.ofChange extPartsSpec)

/-- ITS FALSE NEIGHBOUR: 'it returns false'. Refute it at one input. -/
def extPartsWrong : ChangeSpec := { name := "extParts", fn := fun _ => fun
  | [d] => { results := [.lit (.bool false)], args := [d] }
  | _ => none }
def ExtPartsWrongFalsely : Prop := extPartsRow.holds Try.pinned (OpenSpec.ofChange extPartsWrong)

/-- 'gabionlaw23.DescPlays': WHATEVER THE INPUT: true; the input reads as it did. -/
def descPlaysSpec : ChangeSpec := { name := "descPlays", fn := fun _ => fun
  | [d1, d2] => { results := [.lit (.bool true)], args := [d1, d2] }
  | _ => none }
def descPlaysRow : OpenClaim := { program := "ytpkhfdcokcchdaa", sum := "7fdd5c747c66a3b7423c2f25fce306200070ab5783448e9c4afc275841d5431f", func := "gabion/gabionlaw23.DescPlays", spec := "descPlays", apart := false }
def DescPlaysSaid : Prop := descPlaysRow.holds Try.pinned (OpenSpec.ofChange descPlaysSpec)

/-- ITS FALSE NEIGHBOUR: 'it returns false'. Refute it at one input. -/
def descPlaysWrong : ChangeSpec := { name := "descPlays", fn := fun _ => fun
  | [d1, d2] => { results := [.lit (.bool false)], args := [d1, d2] }
  | _ => none }
def DescPlaysWrongFalsely : Prop := descPlaysRow.holds Try.pinned (OpenSpec.ofChange descPlaysWrong)

/- THE SECOND FORM. 'bulk': how many values and letters a reading holds, each counted each time it is reached (what is shared counts as often as it is met; a slice's spare places count too). A statement '..UptoSaid' is the law's where the arguments, and the package variables that the reading takes, are together of bulk at most 1048576: NARROWER than '..Said'. Prove '..Said' where nothing that the law and all that it calls make is longer than what came in: it says more and counts as full. Else prove '..UptoSaid'. A law counts once. -/
mutual
def uptoBulk {H : Type} : DataW H → Nat
  | .lit (.string bytes) => bytes.length + 1
  | .lit _ => 1
  | .nil => 1
  | .ptr d => uptoBulk d + 1
  | .slice elems spare => uptoBulkAll elems + uptoBulkAll spare + 1
  | .agg parts => uptoBulkAll parts + 1
  | .iface _ d => uptoBulk d + 1
  | .map entries => uptoBulkEntries entries + 1
  | .held _ => 1
def uptoBulkAll {H : Type} : List (DataW H) → Nat
  | [] => 0
  | d :: r => uptoBulk d + uptoBulkAll r
def uptoBulkEntries {H : Type} : List (Lit × DataW H) → Nat
  | [] => 0
  | x :: r => uptoBulkEntry x + uptoBulkEntries r
def uptoBulkEntry {H : Type} : Lit × DataW H → Nat
  | (.string bytes, d) => bytes.length + uptoBulk d + 1
  | (_, d) => uptoBulk d + 1
 end
def uptoSmall : (H : Type) → List (DataW H) → Bool := fun _ ds => decide (uptoBulkAll ds ≤ 1048576)
def OpenSpec.upto (s : _root_.Go.ChangeSpec) : _root_.Go.OpenSpec := { _root_.Go.OpenSpec.ofChange s with cond := some uptoSmall }

/-- 'gabionlaw14.AllocPlays', WHERE WHAT IT READS IS OF BULK AT MOST 1048576: true; the input reads as it did. -/
def allocPlaysUptoRow : OpenClaim := { program := "ytpkhfdcokcchdaa", sum := "7fdd5c747c66a3b7423c2f25fce306200070ab5783448e9c4afc275841d5431f", func := "gabion/gabionlaw14.AllocPlays", spec := "allocPlays", unfollowed := true, recurses := true, apart := false, narrowed := true }
def AllocPlaysUptoSaid : Prop := allocPlaysUptoRow.holds Try.pinned (OpenSpec.upto allocPlaysSpec)

/-- 'gabionlaw14.AllocMakes', WHERE WHAT IT READS IS OF BULK AT MOST 1048576: true; the input reads as it did. -/
def allocMakesUptoRow : OpenClaim := { program := "ytpkhfdcokcchdaa", sum := "7fdd5c747c66a3b7423c2f25fce306200070ab5783448e9c4afc275841d5431f", func := "gabion/gabionlaw14.AllocMakes", spec := "allocMakes", unfollowed := true, recurses := true, apart := false, narrowed := true }
def AllocMakesUptoSaid : Prop := allocMakesUptoRow.holds Try.pinned (OpenSpec.upto allocMakesSpec)

/-- 'gabionlaw14.AllocBack', WHERE WHAT IT READS IS OF BULK AT MOST 1048576: true; the input reads as it did. -/
def allocBackUptoRow : OpenClaim := { program := "ytpkhfdcokcchdaa", sum := "7fdd5c747c66a3b7423c2f25fce306200070ab5783448e9c4afc275841d5431f", func := "gabion/gabionlaw14.AllocBack", spec := "allocBack", unfollowed := true, recurses := true, apart := false, narrowed := true }
def AllocBackUptoSaid : Prop := allocBackUptoRow.holds Try.pinned (OpenSpec.upto allocBackSpec)

/-- 'gabionlaw14.AllocAll', WHERE WHAT IT READS IS OF BULK AT MOST 1048576: true; the input reads as it did. -/
def allocAllUptoRow : OpenClaim := { program := "ytpkhfdcokcchdaa", sum := "7fdd5c747c66a3b7423c2f25fce306200070ab5783448e9c4afc275841d5431f", func := "gabion/gabionlaw14.AllocAll", spec := "allocAll", unfollowed := true, recurses := true, apart := false, narrowed := true }
def AllocAllUptoSaid : Prop := allocAllUptoRow.holds Try.pinned (OpenSpec.upto allocAllSpec)

/-- 'gabionlaw24.LockPlays', WHERE WHAT IT READS IS OF BULK AT MOST 1048576: true; the input reads as it did. -/
def lockPlaysUptoRow : OpenClaim := { program := "ytpkhfdcokcchdaa", sum := "7fdd5c747c66a3b7423c2f25fce306200070ab5783448e9c4afc275841d5431f", func := "gabion/gabionlaw24.LockPlays", spec := "lockPlays", unfollowed := true, recurses := true, apart := false, narrowed := true }
def LockPlaysUptoSaid : Prop := lockPlaysUptoRow.holds Try.pinned (OpenSpec.upto lockPlaysSpec)

/-- 'gabionlaw24.LockMakes', WHERE WHAT IT READS IS OF BULK AT MOST 1048576: true; the input reads as it did. -/
def lockMakesUptoRow : OpenClaim := { program := "ytpkhfdcokcchdaa", sum := "7fdd5c747c66a3b7423c2f25fce306200070ab5783448e9c4afc275841d5431f", func := "gabion/gabionlaw24.LockMakes", spec := "lockMakes", unfollowed := true, recurses := true, apart := false, narrowed := true }
def LockMakesUptoSaid : Prop := lockMakesUptoRow.holds Try.pinned (OpenSpec.upto lockMakesSpec)

/-- 'gabionlaw24.LockRounds', WHERE WHAT IT READS IS OF BULK AT MOST 1048576: true; the input reads as it did. -/
def lockRoundsUptoRow : OpenClaim := { program := "ytpkhfdcokcchdaa", sum := "7fdd5c747c66a3b7423c2f25fce306200070ab5783448e9c4afc275841d5431f", func := "gabion/gabionlaw24.LockRounds", spec := "lockRounds", unfollowed := true, recurses := true, apart := false, narrowed := true }
def LockRoundsUptoSaid : Prop := lockRoundsUptoRow.holds Try.pinned (OpenSpec.upto lockRoundsSpec)

/-- 'gabionlaw15.ExtMaps', WHERE WHAT IT READS IS OF BULK AT MOST 1048576: true; the input reads as it did. -/
def extMapsUptoRow : OpenClaim := { program := "ytpkhfdcokcchdaa", sum := "7fdd5c747c66a3b7423c2f25fce306200070ab5783448e9c4afc275841d5431f", func := "gabion/gabionlaw15.ExtMaps", spec := "extMaps", inPlace := ["internal/abi.NoEscape"], apart := false, narrowed := true }
def ExtMapsUptoSaid : Prop := extMapsUptoRow.holds Try.pinned (OpenSpec.upto extMapsSpec)

/-- 'gabionlaw15.ExtGrows', WHERE WHAT IT READS IS OF BULK AT MOST 1048576: true; the input reads as it did. -/
def extGrowsUptoRow : OpenClaim := { program := "ytpkhfdcokcchdaa", sum := "7fdd5c747c66a3b7423c2f25fce306200070ab5783448e9c4afc275841d5431f", func := "gabion/gabionlaw15.ExtGrows", spec := "extGrows", unfollowed := true, recurses := true, apart := false, narrowed := true }
def ExtGrowsUptoSaid : Prop := extGrowsUptoRow.holds Try.pinned (OpenSpec.upto extGrowsSpec)

/-- 'gabionlaw15.ExtBack', WHERE WHAT IT READS IS OF BULK AT MOST 1048576: true; the input reads as it did. -/
def extBackUptoRow : OpenClaim := { program := "ytpkhfdcokcchdaa", sum := "7fdd5c747c66a3b7423c2f25fce306200070ab5783448e9c4afc275841d5431f", func := "gabion/gabionlaw15.ExtBack", spec := "extBack", unfollowed := true, recurses := true, apart := false, narrowed := true }
def ExtBackUptoSaid : Prop := extBackUptoRow.holds Try.pinned (OpenSpec.upto extBackSpec)

/-- 'gabionlaw15.ExtParts', WHERE WHAT IT READS IS OF BULK AT MOST 1048576: true; the input reads as it did. -/
def extPartsUptoRow : OpenClaim := { program := "ytpkhfdcokcchdaa", sum := "7fdd5c747c66a3b7423c2f25fce306200070ab5783448e9c4afc275841d5431f", func := "gabion/gabionlaw15.ExtParts", spec := "extParts", inPlace := ["internal/abi.NoEscape"], apart := false, narrowed := true }
def ExtPartsUptoSaid : Prop := extPartsUptoRow.holds Try.pinned (OpenSpec.upto extPartsSpec)

/-- 'gabionlaw23.DescPlays', WHERE WHAT IT READS IS OF BULK AT MOST 1048576: true; the input reads as it did. -/
def descPlaysUptoRow : OpenClaim := { program := "ytpkhfdcokcchdaa", sum := "7fdd5c747c66a3b7423c2f25fce306200070ab5783448e9c4afc275841d5431f", func := "gabion/gabionlaw23.DescPlays", spec := "descPlays", apart := false, narrowed := true }
def DescPlaysUptoSaid : Prop := descPlaysUptoRow.holds Try.pinned (OpenSpec.upto descPlaysSpec)

end Rows
end Go.Proofs.Ytpkhfdcokcchdaa
