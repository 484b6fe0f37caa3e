/-
  No cell of these rows narrows 'for every input' (looked for: loops, veiled, ifaces, maps, wideKeys, modest, calm, conditions, laid).
  DERIVED. THE GIVEN ROWS OF THIS SEAT. 9 by the template 'for every input the law returns true; each argument reads behind the call as it read before'; 0 by the template 'total and deterministic' (their statements: YtdpkjbjnjkoeaaaTotals.lean).
  GIVEN WITH THE SEED: the statements are not yours to turn. If you find one false, say at which input.
  Laid BY PROGRAM, IN A SANDBOX (cutbox-rows.mjs): the forced cells as the released guide's own fill.sh prints them over the translation 5b7d521fdc3a084d… (all of the seat's roots in one cut). By AI agents, Wed Nov 11 2026. No macro, syntax, notation, axiom, sorry.
-/
import Derived.Test.YtdpkjbjnjkoeaaaChecked
import GoSem.Claim
import GoSem.ClaimJoined
import GoSem.ClaimMapViews
import Derived.JoinedTies
import Derived.KernelRfl
namespace Go.Proofs.Ytdpkjbjnjkoeaaa
/- THE CELL 'sum', in the pinned program and in every row, IS THE sha256 OF THE DUMP (.gsa) THAT YtdpkjbjnjkoeaaaProg.lean LOADS. Nothing in Lean hashes anything: it is a label: what it is worth is what the hold of that sum in a sandbox is worth. -/
noncomputable def Try.pinned : Pinned := { name := "ytdpkjbjnjkoeaaa", sum := "5b7d521fdc3a084dca910cf4561d9bfd75d26633d5a02c6d6ff155f072cdd043", checked := Try.checked }
namespace Rows
def none {H : Type} : Left H := { results := [], args := [] }

/-- 'gabionlaw08.FeistelGoes': WHATEVER THE INPUT: true; the input reads as it did. -/
def feistelGoesSpec : ChangeSpec := { name := "feistelGoes", fn := fun _ => fun
  | [d1, d2, d3] => { results := [.lit (.bool true)], args := [d1, d2, d3] }
  | _ => none }
def feistelGoesRow : OpenClaim := { program := "ytdpkjbjnjkoeaaa", sum := "5b7d521fdc3a084dca910cf4561d9bfd75d26633d5a02c6d6ff155f072cdd043", func := "gabion/gabionlaw08.FeistelGoes", spec := "feistelGoes", unfollowed := true, recurses := true, apart := false }
def FeistelGoesSaid : Prop := feistelGoesRow.holds Try.pinned (OpenSpec.ofChange feistelGoesSpec)

/-- ITS FALSE NEIGHBOUR: 'it returns false'. Refute it at one input. -/
def feistelGoesWrong : ChangeSpec := { name := "feistelGoes", fn := fun _ => fun
  | [d1, d2, d3] => { results := [.lit (.bool false)], args := [d1, d2, d3] }
  | _ => none }
def FeistelGoesWrongFalsely : Prop := feistelGoesRow.holds Try.pinned (OpenSpec.ofChange feistelGoesWrong)

/-- 'gabionlaw08.FeistelOnce': WHATEVER THE INPUT: true; the input reads as it did. -/
def feistelOnceSpec : ChangeSpec := { name := "feistelOnce", fn := fun _ => fun
  | [d1, d2] => { results := [.lit (.bool true)], args := [d1, d2] }
  | _ => none }
def feistelOnceRow : OpenClaim := { program := "ytdpkjbjnjkoeaaa", sum := "5b7d521fdc3a084dca910cf4561d9bfd75d26633d5a02c6d6ff155f072cdd043", func := "gabion/gabionlaw08.FeistelOnce", spec := "feistelOnce", unfollowed := true, recurses := true, apart := false }
def FeistelOnceSaid : Prop := feistelOnceRow.holds Try.pinned (OpenSpec.ofChange feistelOnceSpec)

/-- ITS FALSE NEIGHBOUR: 'it returns false'. Refute it at one input. -/
def feistelOnceWrong : ChangeSpec := { name := "feistelOnce", fn := fun _ => fun
  | [d1, d2] => { results := [.lit (.bool false)], args := [d1, d2] }
  | _ => none }
def FeistelOnceWrongFalsely : Prop := feistelOnceRow.holds Try.pinned (OpenSpec.ofChange feistelOnceWrong)

/-- 'gabionlaw23.DescPlays': WHATEVER THE INPUT: true; the input reads as it did. -/
def descPlaysSpec : ChangeSpec := { name := "descPlays", fn := fun _ => fun
  | [d1, d2] => { results := [.lit (.bool true)], args := [d1, d2] }
  | _ => none }
def descPlaysRow : OpenClaim := { program := "ytdpkjbjnjkoeaaa", sum := "5b7d521fdc3a084dca910cf4561d9bfd75d26633d5a02c6d6ff155f072cdd043", func := "gabion/gabionlaw23.DescPlays", spec := "descPlays", apart := false }
def DescPlaysSaid : Prop := descPlaysRow.holds Try.pinned (OpenSpec.ofChange descPlaysSpec)

/-- ITS FALSE NEIGHBOUR: 'it returns false'. Refute it at one input. -/
def descPlaysWrong : ChangeSpec := { name := "descPlays", fn := fun _ => fun
  | [d1, d2] => { results := [.lit (.bool false)], args := [d1, d2] }
  | _ => none }
def DescPlaysWrongFalsely : Prop := descPlaysRow.holds Try.pinned (OpenSpec.ofChange descPlaysWrong)

/-- 'gabionlaw23.DescMakes': WHATEVER THE INPUT: true; the input reads as it did. -/
def descMakesSpec : ChangeSpec := { name := "descMakes", fn := fun _ => fun
  | [d1, d2] => { results := [.lit (.bool true)], args := [d1, d2] }
  | _ => none }
def descMakesRow : OpenClaim := { program := "ytdpkjbjnjkoeaaa", sum := "5b7d521fdc3a084dca910cf4561d9bfd75d26633d5a02c6d6ff155f072cdd043", func := "gabion/gabionlaw23.DescMakes", spec := "descMakes", apart := false }
def DescMakesSaid : Prop := descMakesRow.holds Try.pinned (OpenSpec.ofChange descMakesSpec)

/-- ITS FALSE NEIGHBOUR: 'it returns false'. Refute it at one input. -/
def descMakesWrong : ChangeSpec := { name := "descMakes", fn := fun _ => fun
  | [d1, d2] => { results := [.lit (.bool false)], args := [d1, d2] }
  | _ => none }
def DescMakesWrongFalsely : Prop := descMakesRow.holds Try.pinned (OpenSpec.ofChange descMakesWrong)

/-- 'gabionlaw23.DescApart': WHATEVER THE INPUT: true; the input reads as it did. -/
def descApartSpec : ChangeSpec := { name := "descApart", fn := fun _ => fun
  | [d1, d2] => { results := [.lit (.bool true)], args := [d1, d2] }
  | _ => none }
def descApartRow : OpenClaim := { program := "ytdpkjbjnjkoeaaa", sum := "5b7d521fdc3a084dca910cf4561d9bfd75d26633d5a02c6d6ff155f072cdd043", func := "gabion/gabionlaw23.DescApart", spec := "descApart", apart := false }
def DescApartSaid : Prop := descApartRow.holds Try.pinned (OpenSpec.ofChange descApartSpec)

/-- ITS FALSE NEIGHBOUR: 'it returns false'. Refute it at one input. -/
def descApartWrong : ChangeSpec := { name := "descApart", fn := fun _ => fun
  | [d1, d2] => { results := [.lit (.bool false)], args := [d1, d2] }
  | _ => none }
def DescApartWrongFalsely : Prop := descApartRow.holds Try.pinned (OpenSpec.ofChange descApartWrong)

/-- 'gabionlaw23.DescLeast': WHATEVER THE INPUT: true; the input reads as it did. -/
def descLeastSpec : ChangeSpec := { name := "descLeast", fn := fun _ => fun
  | [d] => { results := [.lit (.bool true)], args := [d] }
  | _ => none }
def descLeastRow : OpenClaim := { program := "ytdpkjbjnjkoeaaa", sum := "5b7d521fdc3a084dca910cf4561d9bfd75d26633d5a02c6d6ff155f072cdd043", func := "gabion/gabionlaw23.DescLeast", spec := "descLeast", apart := false }
def DescLeastSaid : Prop := descLeastRow.holds Try.pinned (OpenSpec.ofChange descLeastSpec)

/-- ITS FALSE NEIGHBOUR: 'it returns false'. Refute it at one input. -/
def descLeastWrong : ChangeSpec := { name := "descLeast", fn := fun _ => fun
  | [d] => { results := [.lit (.bool false)], args := [d] }
  | _ => none }
def DescLeastWrongFalsely : Prop := descLeastRow.holds Try.pinned (OpenSpec.ofChange descLeastWrong)

/-- 'gabionlaw24.LockPlays': WHATEVER THE INPUT: true; the input reads as it did. -/
def lockPlaysSpec : ChangeSpec := { name := "lockPlays", fn := fun _ => fun
  | [d1, d2] => { results := [.lit (.bool true)], args := [d1, d2] }
  | _ => none }
def lockPlaysRow : OpenClaim := { program := "ytdpkjbjnjkoeaaa", sum := "5b7d521fdc3a084dca910cf4561d9bfd75d26633d5a02c6d6ff155f072cdd043", func := "gabion/gabionlaw24.LockPlays", spec := "lockPlays", unfollowed := true, recurses := true, apart := false }
def LockPlaysSaid : Prop := lockPlaysRow.holds Try.pinned (OpenSpec.ofChange lockPlaysSpec)

/-- ITS FALSE NEIGHBOUR: 'it returns false'. Refute it at one input. -/
def lockPlaysWrong : ChangeSpec := { name := "lockPlays", fn := fun _ => fun
  | [d1, d2] => { results := [.lit (.bool false)], args := [d1, d2] }
  | _ => none }
def LockPlaysWrongFalsely : Prop := lockPlaysRow.holds Try.pinned (OpenSpec.ofChange lockPlaysWrong)

/-- 'gabionlaw24.LockMakes': WHATEVER THE INPUT: true; the input reads as it did. -/
def lockMakesSpec : ChangeSpec := { name := "lockMakes", fn := fun _ => fun
  | [d1, d2] => { results := [.lit (.bool true)], args := [d1, d2] }
  | _ => none }
def lockMakesRow : OpenClaim := { program := "ytdpkjbjnjkoeaaa", sum := "5b7d521fdc3a084dca910cf4561d9bfd75d26633d5a02c6d6ff155f072cdd043", func := "gabion/gabionlaw24.LockMakes", spec := "lockMakes", unfollowed := true, recurses := true, apart := false }
def LockMakesSaid : Prop := lockMakesRow.holds Try.pinned (OpenSpec.ofChange lockMakesSpec)

/-- ITS FALSE NEIGHBOUR: 'it returns false'. Refute it at one input. -/
def lockMakesWrong : ChangeSpec := { name := "lockMakes", fn := fun _ => fun
  | [d1, d2] => { results := [.lit (.bool false)], args := [d1, d2] }
  | _ => none }
def LockMakesWrongFalsely : Prop := lockMakesRow.holds Try.pinned (OpenSpec.ofChange lockMakesWrong)

/-- 'gabionlaw24.LockRounds': WHATEVER THE INPUT: true; the input reads as it did. -/
def lockRoundsSpec : ChangeSpec := { name := "lockRounds", fn := fun _ => fun
  | [d1, d2] => { results := [.lit (.bool true)], args := [d1, d2] }
  | _ => none }
def lockRoundsRow : OpenClaim := { program := "ytdpkjbjnjkoeaaa", sum := "5b7d521fdc3a084dca910cf4561d9bfd75d26633d5a02c6d6ff155f072cdd043", func := "gabion/gabionlaw24.LockRounds", spec := "lockRounds", unfollowed := true, recurses := true, apart := false }
def LockRoundsSaid : Prop := lockRoundsRow.holds Try.pinned (OpenSpec.ofChange lockRoundsSpec)

/-- ITS FALSE NEIGHBOUR: 'it returns false'. Refute it at one input. -/
def lockRoundsWrong : ChangeSpec := { name := "lockRounds", fn := fun _ => fun
  | [d1, d2] => { results := [.lit (.bool false)], args := [d1, d2] }
  | _ => none }
def LockRoundsWrongFalsely : Prop := lockRoundsRow.holds Try.pinned (OpenSpec.ofChange lockRoundsWrong)

/- THE SECOND FORM. 'bulk': how many values and letters a reading holds, each counted each time it is reached (what is shared counts as often as it is met; a slice's spare places count too). A statement '..UptoSaid' is the law's where the arguments, and the package variables that the reading takes, are together of bulk at most 1048576: NARROWER than '..Said'. Prove '..Said' where nothing that the law and all that it calls make is longer than what came in: it says more and counts as full. Else prove '..UptoSaid'. A law counts once. -/
mutual
def uptoBulk {H : Type} : DataW H → Nat
  | .lit (.string bytes) => bytes.length + 1
  | .lit _ => 1
  | .nil => 1
  | .ptr d => uptoBulk d + 1
  | .slice elems spare => uptoBulkAll elems + uptoBulkAll spare + 1
  | .agg parts => uptoBulkAll parts + 1
  | .iface _ d => uptoBulk d + 1
  | .map entries => uptoBulkEntries entries + 1
  | .held _ => 1
def uptoBulkAll {H : Type} : List (DataW H) → Nat
  | [] => 0
  | d :: r => uptoBulk d + uptoBulkAll r
def uptoBulkEntries {H : Type} : List (Lit × DataW H) → Nat
  | [] => 0
  | x :: r => uptoBulkEntry x + uptoBulkEntries r
def uptoBulkEntry {H : Type} : Lit × DataW H → Nat
  | (.string bytes, d) => bytes.length + uptoBulk d + 1
  | (_, d) => uptoBulk d + 1
 end
def uptoSmall : (H : Type) → List (DataW H) → Bool := fun _ ds => decide (uptoBulkAll ds ≤ 1048576)
def OpenSpec.upto (s : _root_.Go.ChangeSpec) : _root_.Go.OpenSpec := { _root_.Go.OpenSpec.ofChange s with cond := some uptoSmall }

/-- 'gabionlaw08.FeistelGoes', WHERE WHAT IT READS IS OF BULK AT MOST 1048576: true; the input reads as it did. -/
def feistelGoesUptoRow : OpenClaim := { program := "ytdpkjbjnjkoeaaa", sum := "5b7d521fdc3a084dca910cf4561d9bfd75d26633d5a02c6d6ff155f072cdd043", func := "gabion/gabionlaw08.FeistelGoes", spec := "feistelGoes", unfollowed := true, recurses := true, apart := false, narrowed := true }
def FeistelGoesUptoSaid : Prop := feistelGoesUptoRow.holds Try.pinned (OpenSpec.upto feistelGoesSpec)

/-- 'gabionlaw08.FeistelOnce', WHERE WHAT IT READS IS OF BULK AT MOST 1048576: true; the input reads as it did. -/
def feistelOnceUptoRow : OpenClaim := { program := "ytdpkjbjnjkoeaaa", sum := "5b7d521fdc3a084dca910cf4561d9bfd75d26633d5a02c6d6ff155f072cdd043", func := "gabion/gabionlaw08.FeistelOnce", spec := "feistelOnce", unfollowed := true, recurses := true, apart := false, narrowed := true }
def FeistelOnceUptoSaid : Prop := feistelOnceUptoRow.holds Try.pinned (OpenSpec.upto feistelOnceSpec)

/-- 'gabionlaw23.DescPlays', WHERE WHAT IT READS IS OF BULK AT MOST 1048576: true; the input reads as it did. -/
def descPlaysUptoRow : OpenClaim := { program := "ytdpkjbjnjkoeaaa", sum := "5b7d521fdc3a084dca910cf4561d9bfd75d26633d5a02c6d6ff155f072cdd043", func := "gabion/gabionlaw23.DescPlays", spec := "descPlays", apart := false, narrowed := true }
def DescPlaysUptoSaid : Prop := descPlaysUptoRow.holds Try.pinned (OpenSpec.upto descPlaysSpec)

/-- 'gabionlaw23.DescMakes', WHERE WHAT IT READS IS OF BULK AT MOST 1048576: true; the input reads as it did. -/
def descMakesUptoRow : OpenClaim := { program := "ytdpkjbjnjkoeaaa", sum := "5b7d521fdc3a084dca910cf4561d9bfd75d26633d5a02c6d6ff155f072cdd043", func := "gabion/gabionlaw23.DescMakes", spec := "descMakes", apart := false, narrowed := true }
def DescMakesUptoSaid : Prop := descMakesUptoRow.holds Try.pinned (OpenSpec.upto descMakesSpec)

/-- 'gabionlaw23.DescApart', WHERE WHAT IT READS IS OF BULK AT MOST 1048576: true; the input reads as it did. -/
def descApartUptoRow : OpenClaim := { program := "ytdpkjbjnjkoeaaa", sum := "5b7d521fdc3a084dca910cf4561d9bfd75d26633d5a02c6d6ff155f072cdd043", func := "gabion/gabionlaw23.DescApart", spec := "descApart", apart := false, narrowed := true }
def DescApartUptoSaid : Prop := descApartUptoRow.holds Try.pinned (OpenSpec.upto descApartSpec)

/-- 'gabionlaw23.DescLeast', WHERE WHAT IT READS IS OF BULK AT MOST 1048576: true; the input reads as it did. -/
def descLeastUptoRow : OpenClaim := { program := "ytdpkjbjnjkoeaaa", sum := "5b7d521fdc3a084dca910cf4561d9bfd75d26633d5a02c6d6ff155f072cdd043", func := "gabion/gabionlaw23.DescLeast", spec := "descLeast", apart := false, narrowed := true }
def DescLeastUptoSaid : Prop := descLeastUptoRow.holds Try.pinned (OpenSpec.upto descLeastSpec)

/-- 'gabionlaw24.LockPlays', WHERE WHAT IT READS IS OF BULK AT MOST 1048576: true; the input reads as it did. -/
def lockPlaysUptoRow : OpenClaim := { program := "ytdpkjbjnjkoeaaa", sum := "5b7d521fdc3a084dca910cf4561d9bfd75d26633d5a02c6d6ff155f072cdd043", func := "gabion/gabionlaw24.LockPlays", spec := "lockPlays", unfollowed := true, recurses := true, apart := false, narrowed := true }
def LockPlaysUptoSaid : Prop := lockPlaysUptoRow.holds Try.pinned (OpenSpec.upto lockPlaysSpec)

/-- 'gabionlaw24.LockMakes', WHERE WHAT IT READS IS OF BULK AT MOST 1048576: true; the input reads as it did. -/
def lockMakesUptoRow : OpenClaim := { program := "ytdpkjbjnjkoeaaa", sum := "5b7d521fdc3a084dca910cf4561d9bfd75d26633d5a02c6d6ff155f072cdd043", func := "gabion/gabionlaw24.LockMakes", spec := "lockMakes", unfollowed := true, recurses := true, apart := false, narrowed := true }
def LockMakesUptoSaid : Prop := lockMakesUptoRow.holds Try.pinned (OpenSpec.upto lockMakesSpec)

/-- 'gabionlaw24.LockRounds', WHERE WHAT IT READS IS OF BULK AT MOST 1048576: true; the input reads as it did. -/
def lockRoundsUptoRow : OpenClaim := { program := "ytdpkjbjnjkoeaaa", sum := "5b7d521fdc3a084dca910cf4561d9bfd75d26633d5a02c6d6ff155f072cdd043", func := "gabion/gabionlaw24.LockRounds", spec := "lockRounds", unfollowed := true, recurses := true, apart := false, narrowed := true }
def LockRoundsUptoSaid : Prop := lockRoundsUptoRow.holds Try.pinned (OpenSpec.upto lockRoundsSpec)

end Rows
end Go.Proofs.Ytdpkjbjnjkoeaaa
