/-
  Plain lemmas on the reference's register of 32 places: the lowest bit first.
-/
import Derived.Test.YtpkhfdcokcchdabDoorSum3
namespace Go.Proofs.YtpkhfdcokcchdabDoor
open Go.RowKit

def stL (p x : BitVec 32) (b : Bool) : BitVec 32 := (x >>> 1) ^^^ (if (x.getLsbD 0 ^^ b) = true then p else 0#32)
theorem st32 (x : BitVec 32) (b : Bool) : stL 0x82F63B78#32 x b = s32 x ^^^ (if b = true then 0x82F63B78#32 else 0#32) := by
  unfold stL s32
  rw [ite_xor, BitVec.xor_assoc]
def it32 : Nat → BitVec 32 → BitVec 32
  | 0, x => x
  | n + 1, x => it32 n (s32 x)
theorem fold32 (l : List Bool) : ∀ (x y : BitVec 32), l.foldl (stL 0x82F63B78#32) (x ^^^ y) = it32 l.length x ^^^ l.foldl (stL 0x82F63B78#32) y := by
  induction l with
  | nil => intro x y; rfl
  | cons b l ih =>
    intro x y
    have e : stL 0x82F63B78#32 (x ^^^ y) b = s32 x ^^^ stL 0x82F63B78#32 y b := by
      rw [st32, st32, s32_xor, BitVec.xor_assoc]
    simp only [List.foldl_cons, List.length_cons, it32]
    rw [e, ih]
theorem byte0_32 : ∀ n : Fin 256, (bitsLo (UInt8.ofNat n)).foldl (stL 0x82F63B78#32) 0#32 = b32 0#32 (UInt8.ofNat n) := by decide +kernel
theorem byte32 (x : BitVec 32) (u : UInt8) : (bitsLo u).foldl (stL 0x82F63B78#32) x = b32 x u := by
  have h0 := byte0_32 ⟨u.toNat, u.toNat_lt⟩
  have hu : UInt8.ofNat u.toNat = u := by simp
  simp only [hu] at h0
  have h1 := fold32 (bitsLo u) x 0#32
  rw [BitVec.xor_zero, h0] at h1
  rw [h1]
  have h2 := b32_xor x 0#32 0 u
  rw [BitVec.xor_zero, show (0 : UInt8) ^^^ u = u by simp] at h2
  rw [h2]
  congr 1
  have : (bitsLo u).length = 8 := by simp [bitsLo]
  rw [this]
  unfold b32
  simp [it32]
theorem sum32_bits (l : List UInt8) : ∀ x : BitVec 32, (l.flatMap bitsLo).foldl (stL 0x82F63B78#32) x = c32 l x := by
  induction l with
  | nil => intro x; rfl
  | cons u l ih =>
    intro x
    rw [List.flatMap_cons, List.foldl_append, byte32, ih]
    rfl
theorem reg_step32 (p x : BitVec 32) (f : Nat → Bool) (b : Bool) (h : ∀ j, j < 32 → f j = x.getLsbD j) : ∀ j, j < 32 → stF 32 (fun j => p.getLsbD j) f b j = (stL p x b).getLsbD j := by
  intro j hj
  have hm : x.getLsbD 0 = f 0 := (h 0 (by omega)).symm
  have hs : shF 32 f j = (x >>> 1).getLsbD j := by
    unfold shF
    rw [BitVec.getLsbD_ushiftRight, Nat.add_comm 1 j]
    by_cases c : j + 1 < 32
    · rw [if_pos c, h _ c]
    · rw [if_neg c, BitVec.getLsbD_of_ge _ _ (by omega)]
  unfold stF stL
  rw [BitVec.getLsbD_xor, hs, hm]
  by_cases c : (f 0 ^^ b) = true
  · rw [if_pos c, if_pos c]
  · rw [if_neg c, if_neg c]; simp
theorem reg_fold32 (p : BitVec 32) (l : List Bool) : ∀ (x : BitVec 32) (f : Nat → Bool), (∀ j, j < 32 → f j = x.getLsbD j) → ∀ j, j < 32 → (l.foldl (stF 32 (fun j => p.getLsbD j)) f) j = (l.foldl (stL p) x).getLsbD j := by
  induction l with
  | nil => intro x f h; exact h
  | cons b l ih =>
    intro x f h
    simp only [List.foldl_cons]
    exact ih _ _ (reg_step32 p x f b h)
theorem bitsD_lo (u : UInt8) : bitsD true u = bitsLo u := by
  unfold bitsD bitsLo
  simp
theorem ones32 : ∀ j, j < 32 → (fun _ : Nat => true) j = (0xFFFFFFFF#32).getLsbD j := by decide
theorem sum32_num (l : List UInt8) (F : Nat → Bool) (h : F = (preB true l).foldl (stF 32 (fun j => (0x82F63B78#32).getLsbD j)) (fun _ => true)) : numF (fun k => !F (31 - k)) 32 = n32 (sum32 l) := by
  have hp : preB true l = l.flatMap bitsLo := by
    unfold preB
    rw [show bitsD true = bitsLo from funext bitsD_lo]
  have hf := reg_fold32 (0x82F63B78#32) (l.flatMap bitsLo) 0xFFFFFFFF#32 (fun _ => true) ones32
  rw [sum32_bits, ← hp, ← h] at hf
  refine numF_all (sum32 l) _ (fun j hj => ?_)
  unfold sum32
  rw [BitVec.getMsbD, decide_eq_true hj, Bool.true_and, BitVec.getLsbD_not, decide_eq_true (show 32 - 1 - j < 32 by omega), Bool.true_and, show 32 - 1 - j = 31 - j by omega, hf (31 - j) (by omega)]
theorem fieldN1 (n a : Nat) (h : a ≤ 63) : fieldN n (a : Int) 1 = (n.testBit a).toNat := by
  have hok : okF (a : Int) 1 := by unfold okF; omega
  have h1 := fieldN_testBit n a 1 hok 0
  have h2 := fieldN_lt n a 1 hok
  simp only [Int.toNat_one, Int.toNat_natCast, Nat.add_zero] at h1 h2
  rw [Nat.testBit_zero] at h1
  generalize fieldN n (a : Int) 1 = q at *
  simp at h1
  rw [← h1]
  have : q = 0 ∨ q = 1 := by omega
  rcases this with rfl | rfl <;> rfl

end Go.Proofs.YtpkhfdcokcchdabDoor
