/-
  Plain lemmas on the reference's register: bit by bit.
-/
import Derived.Test.YtpkhfdcokcchdabDoorCrc
namespace Go.Proofs.YtpkhfdcokcchdabDoor
open Go.RowKit

/-- One bit goes through a register whose highest place comes first. -/
def st {w : Nat} (p x : BitVec w) (b : Bool) : BitVec w := (x <<< 1) ^^^ (if (x.msb ^^ b) = true then p else 0#w)
def bitsHi (u : UInt8) : List Bool := (List.range 8).map fun k => u.toNat.testBit (7 - k)
def bitsLo (u : UInt8) : List Bool := (List.range 8).map fun k => u.toNat.testBit k
theorem st16 (x : BitVec 16) (b : Bool) : st 0x1021#16 x b = s16 x ^^^ (if b = true then 0x1021#16 else 0#16) := by
  unfold st s16
  rw [ite_xor, BitVec.xor_assoc]
def it16 : Nat → BitVec 16 → BitVec 16
  | 0, x => x
  | n + 1, x => it16 n (s16 x)
theorem fold16 (l : List Bool) : ∀ (x y : BitVec 16), l.foldl (st 0x1021#16) (x ^^^ y) = it16 l.length x ^^^ l.foldl (st 0x1021#16) y := by
  induction l with
  | nil => intro x y; rfl
  | cons b l ih =>
    intro x y
    have e : st 0x1021#16 (x ^^^ y) b = s16 x ^^^ st 0x1021#16 y b := by
      rw [st16, st16, s16_xor, BitVec.xor_assoc]
    simp only [List.foldl_cons, List.length_cons, it16]
    rw [e, ih]
theorem byte0_16 : ∀ n : Fin 256, (bitsHi (UInt8.ofNat n)).foldl (st 0x1021#16) 0#16 = b16 0#16 (UInt8.ofNat n) := by decide +kernel
theorem byte16 (x : BitVec 16) (u : UInt8) : (bitsHi u).foldl (st 0x1021#16) x = b16 x u := by
  have h0 := byte0_16 ⟨u.toNat, u.toNat_lt⟩
  have hu : UInt8.ofNat u.toNat = u := by simp
  simp only [hu] at h0
  have h1 := fold16 (bitsHi u) x 0#16
  rw [BitVec.xor_zero, h0] at h1
  rw [h1]
  have h2 := b16_xor x 0#16 0 u
  rw [BitVec.xor_zero, show (0 : UInt8) ^^^ u = u by simp] at h2
  rw [h2]
  congr 1
  have : (bitsHi u).length = 8 := by simp [bitsHi]
  rw [this]
  unfold b16
  simp [it16]
theorem sum16_bits (l : List UInt8) : ∀ x : BitVec 16, (l.flatMap bitsHi).foldl (st 0x1021#16) x = c16 l x := by
  induction l with
  | nil => intro x; rfl
  | cons u l ih =>
    intro x
    rw [List.flatMap_cons, List.foldl_append, byte16, ih]
    rfl

end Go.Proofs.YtpkhfdcokcchdabDoor
