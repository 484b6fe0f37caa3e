/-
  Plain lemmas on numbers, bits and bytes, without any program: they hold of all naturals.
-/
import Derived.Test.YtefiapmgdjlnnaaDoorDnAa
import Derived.Test.YtefiapmgdjlnnaaDoorDnAb
import Derived.Test.YtefiapmgdjlnnaaDoorDnAc
import Derived.Test.YtefiapmgdjlnnaaDoorDnAd
import Derived.Test.YtefiapmgdjlnnaaDoorDnAe
import Derived.Test.YtefiapmgdjlnnaaDoorDnAf
import Derived.Test.YtefiapmgdjlnnaaDoorDnAg
import Derived.Test.YtefiapmgdjlnnaaDoorDnAh
import Derived.Test.YtefiapmgdjlnnaaDoorDnAi
import Derived.WalkKit

namespace Go.Proofs.YtefiapmgdjlnnaaDoor

def fieldN (n : Nat) (a k : Int) : Nat := if okF a k then n / 2 ^ a.toNat % 2 ^ k.toNat else 0
theorem fieldN_testBit (n : Nat) (a k : Int) (h : okF a k) (i : Nat) : (fieldN n a k).testBit i = (decide (i < k.toNat) && n.testBit (a.toNat + i)) := by
  unfold fieldN
  rw [if_pos h, Nat.testBit_mod_two_pow, Nat.testBit_div_two_pow, Nat.add_comm]
theorem fieldN_lt (n : Nat) (a k : Int) (h : okF a k) : fieldN n a k < 2 ^ k.toNat := by
  unfold fieldN; rw [if_pos h]; exact Nat.mod_lt _ (Nat.two_pow_pos _)
/-! ### Bytes and numbers -/
/-! ### Bit by bit -/
def bitN (n i : Nat) : Nat := n / 2 ^ i % 2
theorem bit_up (y j : Nat) : 2 * (y / 2 % 2 ^ j) + y % 2 = y % 2 ^ (j + 1) := by
  rw [Nat.pow_succ, Nat.mul_comm (2 ^ j) 2, Nat.mod_mul]; omega
end Go.Proofs.YtefiapmgdjlnnaaDoor
