/-
  Plain lemmas on numbers, bits and bytes, without any program: they hold of all naturals.
-/
import Derived.WalkKit

namespace Go.Proofs.YtgleopahldpajaaGreat

/-- Is there such a field of a word? -/
def okF (a k : Int) : Prop := 0 ≤ a ∧ a ≤ 63 ∧ 1 ≤ k ∧ k ≤ 64 - a
instance (a k : Int) : Decidable (okF a k) := by unfold okF; infer_instance
/-! ### Bytes and numbers -/
/-! ### Bit by bit -/
end Go.Proofs.YtgleopahldpajaaGreat
