/-
  Contracts of package crc's functions.
-/
import Derived.Test.YtdgcninmpcmdcaaGreatMgR
import Derived.Test.YtdgcninmpcmdcaaGreatCrcPure
namespace Go.Proofs.YtdgcninmpcmdcaaGreat
open Go.RowKit

def n16 (x : BitVec 16) : Nat := x.toNat
def n32 (x : BitVec 32) : Nat := x.toNat
theorem n16_lt (x : BitVec 16) : n16 x < 65536 := x.isLt
theorem n32_lt (x : BitVec 32) : n32 x < 4294967296 := x.isLt

theorem s16_walk (x : BitVec 16) : bits .xor .u16 (IntKind.u16.wrap ((n16 x : Int) * 2)) (IntKind.u16.wrap ((n16 x : Int) / 32768 * 4129)) = (n16 (s16 x) : Int) := by
  have hx : x.toNat < 65536 := x.isLt
  have e1 : IntKind.u16.wrap ((n16 x : Int) * 2) = ((x <<< 1).toNat : Int) := by
    rw [IntKind.wrap_u16]
    simp only [n16, BitVec.toNat_shiftLeft, Nat.shiftLeft_eq]
    omega
  have e2 : IntKind.u16.wrap ((n16 x : Int) / 32768 * 4129) = ((if x.msb then 0x1021#16 else 0#16).toNat : Int) := by
    rw [IntKind.wrap_u16]
    have hm : x.msb = decide (32768 ≤ x.toNat) := by rw [BitVec.msb_eq_decide]
    rw [hm]
    unfold n16
    by_cases h : 32768 ≤ x.toNat
    · simp only [h, decide_true, if_true]
      have : (x.toNat : Int) / 32768 = 1 := by omega
      rw [this]; rfl
    · simp only [h, decide_false]
      have : (x.toNat : Int) / 32768 = 0 := by omega
      rw [this]; rfl
  rw [e1, e2, u16_xor_nat _ _ (by have := (x <<< 1).isLt; omega) (by have := (if x.msb then 0x1021#16 else 0#16).isLt; omega), ← BitVec.toNat_xor]
  rfl
theorem b16_walk (x : BitVec 16) (b : UInt8) : bits .xor .u16 (n16 x : Int) (IntKind.u16.wrap (IntKind.u16.wrap (b.toNat : Int) * 256)) = (n16 (x ^^^ (BitVec.ofNat 16 b.toNat <<< 8)) : Int) := by
  have hb : b.toNat < 256 := b.toNat_lt
  have e : IntKind.u16.wrap (IntKind.u16.wrap (b.toNat : Int) * 256) = ((BitVec.ofNat 16 b.toNat <<< 8).toNat : Int) := by
    rw [IntKind.wrap_u16, IntKind.wrap_u16]
    simp only [BitVec.toNat_shiftLeft, BitVec.toNat_ofNat, Nat.shiftLeft_eq]
    omega
  rw [e, u16_xor_nat _ _ (n16_lt x) (by have := (BitVec.ofNat 16 b.toNat <<< 8).isLt; omega)]
  unfold n16
  rw [← BitVec.toNat_xor]

theorem c16_take (s : ByteArray) (k : Nat) (h : k < s.size) (x : BitVec 16) : c16 (s.data.toList.take (k + 1)) x = b16 (c16 (s.data.toList.take k) x) s[k] := by
  have hl : k < s.data.toList.length := by simpa using h
  unfold c16
  rw [List.take_succ_eq_append_getElem hl, List.foldl_append]
  rfl

set_option maxHeartbeats 1000000 in
theorem sum16_any (s : ByteArray) (w : World) (hs : s.size ≤ maxLen) :
    Calls Tryz.prog 151 #[.string s] w fun e w' => e = .returned (.int .u16 (n16 (sum16 s.data.toList) : Nat)) ∧ w = w' := by
  unfold maxLen at hs
  have S := s16_walk
  go_enter Tryz.func151, Tryz.ntmps151
  go_wp2
  go_loop [3, 8] (fun n i => ∃ k : Nat, k ≤ s.size ∧ i = .int .i64 k ∧ n = .int .u16 (n16 (c16 (s.data.toList.take k) 0xFFFF#16) : Nat)) (fun _ i => s.size - (intOf i).toNat)
  case atStart => exact ⟨0, by omega, rfl, rfl⟩
  case round =>
    obtain ⟨k, hk, rfl, rfl⟩ := hrel
    by_cases hlt : k < s.size
    · have HC := Lib.hid (c16_take s k hlt 0xFFFF#16)
      have B := b16_walk
      generalize c16 (List.take k s.data.toList) 0xFFFF#16 = x at *
      go_wp2
      go_rounds 9
      exact ⟨⟨k + 1, by omega, by go_num, by rw [HC.out]; rfl⟩, by simp [intOf]; omega⟩
    · have hl : s.data.toList.length = s.size := by simp
      have hf : c16 (s.data.toList.take k) 0xFFFF#16 = sum16 s.data.toList := by
        rw [List.take_of_length_le (by omega)]; rfl
      rw [hf]
      clear hf
      go_wp2
      go_ret
      exact ⟨rfl, rfl⟩

theorem s32_walk (x : BitVec 32) : bits .xor .u32 ((n32 x : Int) / 2) (bits .and .u32 (n32 x : Int) 1 * 2197175160 % 4294967296) = (n32 (s32 x) : Int) := by
  have hx : x.toNat < 4294967296 := x.isLt
  have e1 : ((n32 x : Int) / (2 : Int)) = ((x >>> 1).toNat : Int) := by
    simp only [n32, BitVec.toNat_ushiftRight, Nat.shiftRight_eq_div_pow]
    omega
  have e2 : bits .and .u32 (n32 x : Int) 1 * 2197175160 % 4294967296 = ((if x.getLsbD 0 then 0x82F63B78#32 else 0#32).toNat : Int) := by
    have a := u32_and_nat (n32 x) 1 hx (by omega)
    have a' : bits .and .u32 (n32 x : Int) 1 = ((n32 x % 2 : Nat) : Int) := by
      rw [show (1 : Int) = ((1 : Nat) : Int) from rfl, a, nat_mask1]
    rw [a']
    have hm : x.getLsbD 0 = decide (x.toNat % 2 = 1) := by
      rw [BitVec.getLsbD, Nat.testBit_zero]
    rw [hm]
    unfold n32
    by_cases h : x.toNat % 2 = 1
    · simp only [h, decide_true, if_true]; rfl
    · have h0 : x.toNat % 2 = 0 := by omega
      simp only [h0]; rfl
  rw [e1, e2, u32_xor_nat _ _ (by have := (x >>> 1).isLt; omega) (by have := (if x.getLsbD 0 then 0x82F63B78#32 else 0#32).isLt; omega), ← BitVec.toNat_xor]
  rfl
theorem b32_walk (x : BitVec 32) (b : UInt8) : bits .xor .u32 (n32 x : Int) ((b.toNat : Int) % 4294967296) = (n32 (x ^^^ BitVec.ofNat 32 b.toNat) : Int) := by
  have hb : b.toNat < 256 := b.toNat_lt
  have e : (b.toNat : Int) % 4294967296 = ((BitVec.ofNat 32 b.toNat).toNat : Int) := by
    simp only [BitVec.toNat_ofNat]
    omega
  rw [e, u32_xor_nat _ _ (n32_lt x) (by have := (BitVec.ofNat 32 b.toNat).isLt; omega)]
  unfold n32
  rw [← BitVec.toNat_xor]

theorem c32_take (s : ByteArray) (k : Nat) (h : k < s.size) (x : BitVec 32) : c32 (s.data.toList.take (k + 1)) x = b32 (c32 (s.data.toList.take k) x) s[k] := by
  have hl : k < s.data.toList.length := by simpa using h
  unfold c32
  rw [List.take_succ_eq_append_getElem hl, List.foldl_append]
  rfl

theorem un32 (y : BitVec 32) : Op.unary .xor (.int .u32 (n32 (~~~ y) : Int)) = pure (.int .u32 (n32 y : Int)) := by
  show pure (Value.int .u32 (bits .xor .u32 IntKind.u32.max (n32 (~~~ y) : Int))) = _
  have e : IntKind.u32.max = (((BitVec.allOnes 32).toNat : Nat) : Int) := by decide
  rw [e, u32_xor_nat _ _ (BitVec.allOnes 32).isLt (n32_lt _)]
  unfold n32
  rw [← BitVec.toNat_xor, BitVec.allOnes_xor, BitVec.not_not]
theorem un16 (y : BitVec 16) : Op.unary .xor (.int .u16 (n16 y : Int)) = pure (.int .u16 (n16 (~~~ y) : Int)) := by
  show pure (Value.int .u16 (bits .xor .u16 IntKind.u16.max (n16 y : Int))) = _
  have e : IntKind.u16.max = (((BitVec.allOnes 16).toNat : Nat) : Int) := by decide
  rw [e, u16_xor_nat _ _ (BitVec.allOnes 16).isLt (n16_lt _)]
  unfold n16
  rw [← BitVec.toNat_xor, BitVec.allOnes_xor]
/-! ### Guarded words -/
def low48 (n : Nat) : Nat := n % 281474976710656
def check (n : Nat) : BitVec 16 := ~~~ sum16 (putL n 6)
def guardN (n : Nat) : Nat := withN n 48 16 (n16 (check n))
theorem guardN_lt (n : Nat) (hn : n < 18446744073709551616) : guardN n < 18446744073709551616 := withN_lt _ _ _ _ hn

set_option maxHeartbeats 1000000 in
theorem guard_any (n : Nat) (w : World) (hn : n < 18446744073709551616) :
    Calls Tryz.prog 139 #[.int .u64 n] w fun e w' => e = .returned (.int .u64 (guardN n : Nat)) ∧ Below w.heap.size w w' := by
  go_enter Tryz.func139, Tryz.ntmps139
  go_wp2_with fail
  refine (put_any n _ _ hn).mono ?_
  rintro e w1 ⟨rfl, hb1⟩
  rw [show clamp8 6 = 6 from rfl]
  go_wp2_with fail
  refine (sum16_any _ _ (by simp [ByteArray.size, putL_length, maxLen])).mono ?_
  rintro e w2 ⟨rfl, rfl⟩
  rw [show (ByteArray.mk (putL n 6).toArray).data.toList = putL n 6 by simp]
  have U := un16 (sum16 (putL n 6))
  have hc : (~~~ sum16 (putL n 6)) = check n := rfl
  rw [hc] at U
  have hlt := n16_lt (check n)
  generalize sum16 (putL n 6) = y at *
  have HC := Lib.hid hc
  clear hc
  generalize hk : check n = c at *
  have HK := Lib.hid hk
  clear hk
  go_wp2_with fail
  refine (with_any n _ _ (n16 c) _ hn (by omega) (by omega)).mono ?_
  rintro e w3 ⟨rfl, rfl⟩
  have hg : withN n 48 16 (n16 c) = guardN n := by unfold guardN; rw [HK.out]
  rw [hg]
  go_wp2_with fail
  go_ret
  exact ⟨rfl, hb1⟩

set_option maxHeartbeats 1000000 in
theorem guarded_yes (n : Nat) (w : World) (hn : n < 18446744073709551616) (h : guardN n = n) :
    Calls Tryz.prog 135 #[.int .u64 n] w fun e w' => e = .returned (.tuple #[.int .u64 (low48 n : Nat), .bool true]) ∧ Below w.heap.size w w' := by
  have H := Lib.hid h
  clear h
  go_enter Tryz.func135, Tryz.ntmps135
  go_wp2_with fail
  refine (guard_any n _ hn).mono ?_
  rintro e w1 ⟨rfl, hb1⟩
  rw [H.out]
  go_wp2_with fail
  refine (field_any n _ _ _ hn (by omega) (by omega)).mono ?_
  rintro e w2 ⟨rfl, rfl⟩
  have hf : fieldN n 0 48 = low48 n := by
    unfold fieldN low48
    rw [if_pos (by unfold okF; omega)]
    simp
  rw [hf]
  go_wp2_with fail
  go_ret2
  exact ⟨rfl, hb1⟩
set_option maxHeartbeats 1000000 in
theorem guarded_no (n : Nat) (w : World) (hn : n < 18446744073709551616) (h : guardN n ≠ n) :
    Calls Tryz.prog 135 #[.int .u64 n] w fun e w' => e = .returned (.tuple #[.int .u64 0, .bool false]) ∧ Below w.heap.size w w' := by
  have hb : ((guardN n : Int) == (n : Int)) = false := by simp; omega
  have hb' : ((guardN n : Int) != (n : Int)) = true := by simp; omega
  clear h
  go_enter Tryz.func135, Tryz.ntmps135
  go_wp2_with fail
  refine (guard_any n _ hn).mono ?_
  rintro e w1 ⟨rfl, hb1⟩
  go_wp2_with fail
  go_ret2
  exact ⟨rfl, hb1⟩

end Go.Proofs.YtdgcninmpcmdcaaGreat
