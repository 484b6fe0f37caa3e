/-
  MgR: LawC, LawD.
-/
import Derived.Test.YtdgcninmpcmdcaaGreatMgN
import Derived.Deep.QuietTactic
import Derived.BigQuiet

/-
  The walks of layer 1's other statements: fields of words.
-/
namespace Go.Proofs.YtdgcninmpcmdcaaGreat
open Go.RowKit

theorem bits_eq {x y : Nat} (h : ∀ i, x.testBit i = y.testBit i) : x = y := Nat.eq_of_testBit_eq h

theorem part1 (w v A K : Nat) (h : okF A K) : fieldN (withN w A K v) A K = fieldN v 0 K := by
  have h0 : okF 0 K := by unfold okF at *; omega
  apply bits_eq
  intro i
  rw [fieldN_testBit _ _ _ h, fieldN_testBit _ _ _ h0, withN_testBit _ _ _ _ h]
  simp only [Int.toNat_natCast, Int.toNat_zero, Nat.zero_add]
  by_cases c : i < K
  · rw [if_pos (by omega)]; congr 2; omega
  · simp [c]
theorem part2 (w v A K : Nat) (h : okF A K) : withN (withN w A K v) A K (fieldN w A K) = w := by
  apply bits_eq
  intro i
  rw [withN_testBit _ _ _ _ h]
  simp only [Int.toNat_natCast]
  split
  · rename_i c
    rw [fieldN_testBit _ _ _ h]
    simp only [Int.toNat_natCast]
    have : i - A < K := by omega
    simp only [this, decide_true, Bool.true_and]
    congr 1; omega
  · rename_i c
    rw [withN_testBit _ _ _ _ h]
    simp only [Int.toNat_natCast]
    rw [if_neg c]
theorem part3 (w v A K : Nat) (h : okF A K) (hA : A ≠ 0) : fieldN (withN w A K v) 0 A = fieldN w 0 A := by
  have h0 : okF 0 A := by unfold okF at *; omega
  apply bits_eq
  intro i
  rw [fieldN_testBit _ _ _ h0, fieldN_testBit _ _ _ h0, withN_testBit _ _ _ _ h]
  simp only [Int.toNat_natCast, Int.toNat_zero, Nat.zero_add]
  by_cases c : i < A
  · rw [if_neg (by omega)]
  · simp [c]
theorem part4 (w v A K : Nat) (h : okF A K) (hA : A + K ≠ 64) : fieldN (withN w A K v) ((A : Int) + K) (64 - (A : Int) - K) = fieldN w ((A : Int) + K) (64 - (A : Int) - K) := by
  have h0 : okF ((A : Int) + K) (64 - (A : Int) - K) := by unfold okF at *; omega
  apply bits_eq
  intro i
  rw [fieldN_testBit _ _ _ h0, fieldN_testBit _ _ _ h0, withN_testBit _ _ _ _ h]
  have e : ((A : Int) + K).toNat = A + K := by omega
  simp only [Int.toNat_natCast, e]
  rw [if_neg (by omega)]

end Go.Proofs.YtdgcninmpcmdcaaGreat

/-
  The walk of LeFields.
-/
namespace Go.Proofs.YtdgcninmpcmdcaaGreat
open Go.RowKit

theorem Below.drewN_ {B : Nat} {a w : World} (h : Below B a w) (n : Nat) : Below B a (w.drewN n) := ⟨h.os, h.tape, h.output, h.size, h.block⟩
theorem calls_flip {P : Program} {f : FuncId} {args : Array Value} {w : World} {x : Ending} (h : Calls P f args w fun e w' => e = x ∧ w = w') : Calls P f args w fun e w' => e = x ∧ w' = w :=
  h.mono fun _ _ ⟨he, hw⟩ => ⟨he, hw.symm⟩

end Go.Proofs.YtdgcninmpcmdcaaGreat
