/-
  HkAk: Crc, SpD.
-/
import Derived.Test.YtefmbchebobceaaGreatHkAi
import Derived.Test.YtefmbchebobceaaGreatHkAj
import Derived.Deep.QuietTactic
import Derived.BigQuiet
import Derived.Deep.RegionHeld3

set_option linter.unusedVariables false

/-
  Contracts of package crc's functions.
-/
namespace Go.Proofs.YtefmbchebobceaaGreat
open Go.RowKit

def n16 (x : BitVec 16) : Nat := x.toNat
def n32 (x : BitVec 32) : Nat := x.toNat
theorem n16_lt (x : BitVec 16) : n16 x < 65536 := x.isLt
theorem n32_lt (x : BitVec 32) : n32 x < 4294967296 := x.isLt

theorem s16_walk (x : BitVec 16) : bits .xor .u16 (IntKind.u16.wrap ((n16 x : Int) * 2)) (IntKind.u16.wrap ((n16 x : Int) / 32768 * 4129)) = (n16 (s16 x) : Int) := by
  have hx : x.toNat < 65536 := x.isLt
  have e1 : IntKind.u16.wrap ((n16 x : Int) * 2) = ((x <<< 1).toNat : Int) := by
    rw [IntKind.wrap_u16]
    simp only [n16, BitVec.toNat_shiftLeft, Nat.shiftLeft_eq]
    omega
  have e2 : IntKind.u16.wrap ((n16 x : Int) / 32768 * 4129) = ((if x.msb then 0x1021#16 else 0#16).toNat : Int) := by
    rw [IntKind.wrap_u16]
    have hm : x.msb = decide (32768 ≤ x.toNat) := by rw [BitVec.msb_eq_decide]
    rw [hm]
    unfold n16
    by_cases h : 32768 ≤ x.toNat
    · simp only [h, decide_true, if_true]
      have : (x.toNat : Int) / 32768 = 1 := by omega
      rw [this]; rfl
    · simp only [h, decide_false]
      have : (x.toNat : Int) / 32768 = 0 := by omega
      rw [this]; rfl
  rw [e1, e2, u16_xor_nat _ _ (by have := (x <<< 1).isLt; omega) (by have := (if x.msb then 0x1021#16 else 0#16).isLt; omega), ← BitVec.toNat_xor]
  rfl
theorem b16_walk (x : BitVec 16) (b : UInt8) : bits .xor .u16 (n16 x : Int) (IntKind.u16.wrap (IntKind.u16.wrap (b.toNat : Int) * 256)) = (n16 (x ^^^ (BitVec.ofNat 16 b.toNat <<< 8)) : Int) := by
  have hb : b.toNat < 256 := b.toNat_lt
  have e : IntKind.u16.wrap (IntKind.u16.wrap (b.toNat : Int) * 256) = ((BitVec.ofNat 16 b.toNat <<< 8).toNat : Int) := by
    rw [IntKind.wrap_u16, IntKind.wrap_u16]
    simp only [BitVec.toNat_shiftLeft, BitVec.toNat_ofNat, Nat.shiftLeft_eq]
    omega
  rw [e, u16_xor_nat _ _ (n16_lt x) (by have := (BitVec.ofNat 16 b.toNat <<< 8).isLt; omega)]
  unfold n16
  rw [← BitVec.toNat_xor]

theorem c16_take (s : ByteArray) (k : Nat) (h : k < s.size) (x : BitVec 16) : c16 (s.data.toList.take (k + 1)) x = b16 (c16 (s.data.toList.take k) x) s[k] := by
  have hl : k < s.data.toList.length := by simpa using h
  unfold c16
  rw [List.take_succ_eq_append_getElem hl, List.foldl_append]
  rfl

set_option maxHeartbeats 1000000 in
theorem sum16_any (s : ByteArray) (w : World) (hs : s.size ≤ maxLen) :
    Calls Tryz.prog 195 #[.string s] w fun e w' => e = .returned (.int .u16 (n16 (sum16 s.data.toList) : Nat)) ∧ w = w' := by
  unfold maxLen at hs
  have S := s16_walk
  go_enter Tryz.func195, Tryz.ntmps195
  go_wp2
  go_loop [3, 8] (fun n i => ∃ k : Nat, k ≤ s.size ∧ i = .int .i64 k ∧ n = .int .u16 (n16 (c16 (s.data.toList.take k) 0xFFFF#16) : Nat)) (fun _ i => s.size - (intOf i).toNat)
  case atStart => exact ⟨0, by omega, rfl, rfl⟩
  case round =>
    obtain ⟨k, hk, rfl, rfl⟩ := hrel
    by_cases hlt : k < s.size
    · have HC := Lib.hid (c16_take s k hlt 0xFFFF#16)
      have B := b16_walk
      generalize c16 (List.take k s.data.toList) 0xFFFF#16 = x at *
      go_wp2
      go_rounds 9
      exact ⟨⟨k + 1, by omega, by go_num, by rw [HC.out]; rfl⟩, by simp [intOf]; omega⟩
    · have hl : s.data.toList.length = s.size := by simp
      have hf : c16 (s.data.toList.take k) 0xFFFF#16 = sum16 s.data.toList := by
        rw [List.take_of_length_le (by omega)]; rfl
      rw [hf]
      clear hf
      go_wp2
      go_ret
      exact ⟨rfl, rfl⟩

theorem s32_walk (x : BitVec 32) : bits .xor .u32 ((n32 x : Int) / 2) (bits .and .u32 (n32 x : Int) 1 * 2197175160 % 4294967296) = (n32 (s32 x) : Int) := by
  have hx : x.toNat < 4294967296 := x.isLt
  have e1 : ((n32 x : Int) / (2 : Int)) = ((x >>> 1).toNat : Int) := by
    simp only [n32, BitVec.toNat_ushiftRight, Nat.shiftRight_eq_div_pow]
    omega
  have e2 : bits .and .u32 (n32 x : Int) 1 * 2197175160 % 4294967296 = ((if x.getLsbD 0 then 0x82F63B78#32 else 0#32).toNat : Int) := by
    have a := u32_and_nat (n32 x) 1 hx (by omega)
    have a' : bits .and .u32 (n32 x : Int) 1 = ((n32 x % 2 : Nat) : Int) := by
      rw [show (1 : Int) = ((1 : Nat) : Int) from rfl, a, nat_mask1]
    rw [a']
    have hm : x.getLsbD 0 = decide (x.toNat % 2 = 1) := by
      rw [BitVec.getLsbD, Nat.testBit_zero]
    rw [hm]
    unfold n32
    by_cases h : x.toNat % 2 = 1
    · simp only [h, decide_true, if_true]; rfl
    · have h0 : x.toNat % 2 = 0 := by omega
      simp only [h0]; rfl
  rw [e1, e2, u32_xor_nat _ _ (by have := (x >>> 1).isLt; omega) (by have := (if x.getLsbD 0 then 0x82F63B78#32 else 0#32).isLt; omega), ← BitVec.toNat_xor]
  rfl
theorem b32_walk (x : BitVec 32) (b : UInt8) : bits .xor .u32 (n32 x : Int) ((b.toNat : Int) % 4294967296) = (n32 (x ^^^ BitVec.ofNat 32 b.toNat) : Int) := by
  have hb : b.toNat < 256 := b.toNat_lt
  have e : (b.toNat : Int) % 4294967296 = ((BitVec.ofNat 32 b.toNat).toNat : Int) := by
    simp only [BitVec.toNat_ofNat]
    omega
  rw [e, u32_xor_nat _ _ (n32_lt x) (by have := (BitVec.ofNat 32 b.toNat).isLt; omega)]
  unfold n32
  rw [← BitVec.toNat_xor]

theorem c32_take (s : ByteArray) (k : Nat) (h : k < s.size) (x : BitVec 32) : c32 (s.data.toList.take (k + 1)) x = b32 (c32 (s.data.toList.take k) x) s[k] := by
  have hl : k < s.data.toList.length := by simpa using h
  unfold c32
  rw [List.take_succ_eq_append_getElem hl, List.foldl_append]
  rfl

theorem un32 (y : BitVec 32) : Op.unary .xor (.int .u32 (n32 (~~~ y) : Int)) = pure (.int .u32 (n32 y : Int)) := by
  show pure (Value.int .u32 (bits .xor .u32 IntKind.u32.max (n32 (~~~ y) : Int))) = _
  have e : IntKind.u32.max = (((BitVec.allOnes 32).toNat : Nat) : Int) := by decide
  rw [e, u32_xor_nat _ _ (BitVec.allOnes 32).isLt (n32_lt _)]
  unfold n32
  rw [← BitVec.toNat_xor, BitVec.allOnes_xor, BitVec.not_not]
theorem un16 (y : BitVec 16) : Op.unary .xor (.int .u16 (n16 y : Int)) = pure (.int .u16 (n16 (~~~ y) : Int)) := by
  show pure (Value.int .u16 (bits .xor .u16 IntKind.u16.max (n16 y : Int))) = _
  have e : IntKind.u16.max = (((BitVec.allOnes 16).toNat : Nat) : Int) := by decide
  rw [e, u16_xor_nat _ _ (BitVec.allOnes 16).isLt (n16_lt _)]
  unfold n16
  rw [← BitVec.toNat_xor, BitVec.allOnes_xor]
set_option maxHeartbeats 1000000 in
theorem sum32_any (s : ByteArray) (w : World) (hs : s.size ≤ maxLen) :
    Calls Tryz.prog 144 #[.string s] w fun e w' => e = .returned (.int .u32 (n32 (sum32 s.data.toList) : Nat)) ∧ w = w' := by
  unfold maxLen at hs
  have S := s32_walk
  go_enter Tryz.func144, Tryz.ntmps144
  go_wp2
  go_loop [3, 8] (fun n i => ∃ k : Nat, k ≤ s.size ∧ i = .int .i64 k ∧ n = .int .u32 (n32 (c32 (s.data.toList.take k) 0xFFFFFFFF#32) : Nat)) (fun _ i => s.size - (intOf i).toNat)
  case atStart => exact ⟨0, by omega, rfl, rfl⟩
  case round =>
    obtain ⟨k, hk, rfl, rfl⟩ := hrel
    by_cases hlt : k < s.size
    · have HC := Lib.hid (c32_take s k hlt 0xFFFFFFFF#32)
      have B := b32_walk
      generalize c32 (List.take k s.data.toList) 0xFFFFFFFF#32 = x at *
      go_wp2
      go_rounds 9
      exact ⟨⟨k + 1, by omega, by go_num, by rw [HC.out]; rfl⟩, by simp [intOf]; omega⟩
    · have hl : s.data.toList.length = s.size := by simp
      have hf : c32 (s.data.toList.take k) 0xFFFFFFFF#32 = ~~~ sum32 s.data.toList := by
        unfold sum32
        rw [List.take_of_length_le (by omega), BitVec.not_not]
      rw [hf]
      clear hf
      have U := un32 (sum32 s.data.toList)
      generalize hy : sum32 s.data.toList = y at *
      have HY := Lib.hid hy
      clear hy
      go_wp2
      go_ret
      exact ⟨by rw [HY.out] <;> rfl, rfl⟩

/-! ### Guarded words -/
def low48 (n : Nat) : Nat := n % 281474976710656
def check (n : Nat) : BitVec 16 := ~~~ sum16 (putL n 6)
def guardN (n : Nat) : Nat := withN n 48 16 (n16 (check n))
theorem guardN_lt (n : Nat) (hn : n < 18446744073709551616) : guardN n < 18446744073709551616 := withN_lt _ _ _ _ hn

set_option maxHeartbeats 1000000 in
theorem guard_any (n : Nat) (w : World) (hn : n < 18446744073709551616) :
    Calls Tryz.prog 149 #[.int .u64 n] w fun e w' => e = .returned (.int .u64 (guardN n : Nat)) ∧ Below w.heap.size w w' := by
  go_enter Tryz.func149, Tryz.ntmps149
  go_wp2_with fail
  refine (put_any n _ _ hn).mono ?_
  rintro e w1 ⟨rfl, hb1⟩
  rw [show clamp8 6 = 6 from rfl]
  go_wp2_with fail
  refine (sum16_any _ _ (by simp [ByteArray.size, putL_length, maxLen])).mono ?_
  rintro e w2 ⟨rfl, rfl⟩
  rw [show (ByteArray.mk (putL n 6).toArray).data.toList = putL n 6 by simp]
  have U := un16 (sum16 (putL n 6))
  have hc : (~~~ sum16 (putL n 6)) = check n := rfl
  rw [hc] at U
  have hlt := n16_lt (check n)
  generalize sum16 (putL n 6) = y at *
  have HC := Lib.hid hc
  clear hc
  generalize hk : check n = c at *
  have HK := Lib.hid hk
  clear hk
  go_wp2_with fail
  refine (with_any n _ _ (n16 c) _ hn (by omega) (by omega)).mono ?_
  rintro e w3 ⟨rfl, rfl⟩
  have hg : withN n 48 16 (n16 c) = guardN n := by unfold guardN; rw [HK.out]
  rw [hg]
  go_wp2_with fail
  go_ret
  exact ⟨rfl, hb1⟩

set_option maxHeartbeats 1000000 in
theorem guarded_yes (n : Nat) (w : World) (hn : n < 18446744073709551616) (h : guardN n = n) :
    Calls Tryz.prog 106 #[.int .u64 n] w fun e w' => e = .returned (.tuple #[.int .u64 (low48 n : Nat), .bool true]) ∧ Below w.heap.size w w' := by
  have H := Lib.hid h
  clear h
  go_enter Tryz.func106, Tryz.ntmps106
  go_wp2_with fail
  refine (guard_any n _ hn).mono ?_
  rintro e w1 ⟨rfl, hb1⟩
  rw [H.out]
  go_wp2_with fail
  refine (field_any n _ _ _ hn (by omega) (by omega)).mono ?_
  rintro e w2 ⟨rfl, rfl⟩
  have hf : fieldN n 0 48 = low48 n := by
    unfold fieldN low48
    rw [if_pos (by unfold okF; omega)]
    simp
  rw [hf]
  go_wp2_with fail
  go_ret2
  exact ⟨rfl, hb1⟩
end Go.Proofs.YtefmbchebobceaaGreat

/-
  Layer 5: replace.
-/
namespace Go.Proofs.YtefmbchebobceaaGreat
open Go.RowKit

structure RepR where
  t : Bool
  e : Int
  D : DevS
  B : BkS
def markN (D : DevS) (z : Int) (i : Int) (s : ByteArray) : Nat := if tookB D z s then i.toNat + 1 else 65535
def replaceS (p : PlanZ) (i : Int) (s : ByteArray) (D : DevS) (B : BkS) : RepR :=
  if (putE D (spareP p B.used) s).1 ≠ 0 then ⟨false, (putE D (spareP p B.used) s).1, (putE D (spareP p B.used) s).2, B⟩
  else if (pwE (putE D (spareP p B.used) s).2 (p.a + (B.used : Int) / 8) ((B.used : Int) % 8) (guardN (markN (putE D (spareP p B.used) s).2 (spareP p B.used) i s))).1 ≠ 0 then
    ⟨false, (pwE (putE D (spareP p B.used) s).2 (p.a + (B.used : Int) / 8) ((B.used : Int) % 8) (guardN (markN (putE D (spareP p B.used) s).2 (spareP p B.used) i s))).1, (pwE (putE D (spareP p B.used) s).2 (p.a + (B.used : Int) / 8) ((B.used : Int) % 8) (guardN (markN (putE D (spareP p B.used) s).2 (spareP p B.used) i s))).2, B⟩
  else ⟨tookB (putE D (spareP p B.used) s).2 (spareP p B.used) s, 0, (pwE (putE D (spareP p B.used) s).2 (p.a + (B.used : Int) / 8) ((B.used : Int) % 8) (guardN (markN (putE D (spareP p B.used) s).2 (spareP p B.used) i s))).2, ⟨B.used + 1, if tookB (putE D (spareP p B.used) s).2 (spareP p B.used) s then updZ B.wh i (some B.used) else B.wh⟩⟩
def RepPost (w : World) (q : BkA) (a : DevA) (p : PlanZ) (m c : Nat) (R : RepR) (e : Ending) (w' : World) : Prop :=
  e = .returned (.tuple #[.bool R.t, .int .i64 R.e]) ∧ DevIs w' a R.D ∧ Bd R.D (c + 20) ∧ BkIs w' q a p R.B (m + 1) ∧ Gr (q.all ++ a.all) w w'
section
variable {w : World} {q : BkA} {a : DevA} {p : PlanZ} {B : BkS} {m c : Nat} {D : DevS}
theorem BkIs.more (h : BkIs w q a p B m) : BkIs w q a p B (m + 1) := ⟨h.head, h.map.mono (Nat.le_succ m), h.ok, h.us, h.rg, h.ne, h.sep⟩
theorem bk_used (h : BkIs w q a p B m) (hu : (B.used : Int) < p.s) : BkIs (w.setCell ⟨q.b, 4, none⟩ (.int .i64 ((B.used : Int) + 1))) q a p ⟨B.used + 1, B.wh⟩ m ∧ Gr [q.b] w (w.setCell ⟨q.b, 4, none⟩ (.int .i64 ((B.used : Int) + 1))) := by
  have g : Gr [q.b] w (w.setCell ⟨q.b, 4, none⟩ (.int .i64 ((B.used : Int) + 1))) := (Gr.refl [q.b] w).setCell (p := ⟨q.b, 4, none⟩) (.inl (by simp)) _
  refine ⟨⟨?_, h.map.gr g (by simp; exact h.ne.symm), h.ok, by simp only; omega, h.rg, h.ne, h.sep⟩, g⟩
  have := h.head.set 4 (.int .i64 ((B.used : Int) + 1))
  simpa using this
theorem bk_where {w' : World} {k : Nat} {i : Int} (h : BkIs w q a p B m) (hM : MapZ niE 3 w' q.bm (m + 1) (updZ B.wh i (some k))) (g : Gr [q.bm] w w') (hk : (k : Int) < p.s) : BkIs w' q a p ⟨B.used, updZ B.wh i (some k)⟩ (m + 1) := by
  refine ⟨h.head.gr g (by simp; exact h.ne), hM, h.ok, h.us, fun x j hj => ?_, h.ne, h.sep⟩
  simp only [updZ] at hj
  split at hj
  · injection hj with hj; rw [← hj]; exact hk
  · exact h.rg x j hj
set_option maxRecDepth 100000 in
set_option maxHeartbeats 8000000 in
theorem replace_any (i : Int) (s : ByteArray) (h : BkIs w q a p B m) (hd : DevIs w a D) (hb : Bd D c) (hc : c < 900000000) (hs : s.size ≤ maxLen) (hi : inP p i) (hu : (B.used : Int) < p.s) (hm : m < 100000000) :
    Calls Tryz.prog 226 #[.pointer (some ⟨q.b, 0, none⟩), .int .i64 i, .string s] w (RepPost w q a p m c (replaceS p i s D B)) := by
  obtain ⟨h1, h2, h3, h4, h5, h6⟩ := (okZ_iff _).1 h.ok
  obtain ⟨i0, i1⟩ : 0 ≤ i ∧ i < p.l := hi
  have c0 := h.c0
  have c1 := h.c1
  have c2 := h.c2
  have c3 := h.c3
  have c4 := h.c4
  have H := Lib.hid h
  have HD := Lib.hid (And.intro hd hb)
  obtain ⟨k, hk⟩ : ∃ k, k = B.used := ⟨_, rfl⟩
  have hu' : (k : Int) < p.s := by omega
  rw [← hk] at c4
  have HS := Lib.hid (show Calls Tryz.prog 186 #[.agg #[.int .i64 p.a, .int .i64 p.l, .int .i64 p.s], .int .i64 (k : Int)] w _ from spareat_any p h.ok (k : Int) (by omega) (by omega) w)
  obtain ⟨z, hz⟩ : ∃ z, z = spareP p (k : Int) := ⟨_, rfl⟩
  have hz' : p.a + tabZ p + p.l + (k : Int) = z := by rw [hz]; rfl
  rw [hz'] at HS
  have HK := Lib.hid (And.intro hk hz)
  have HSS := Lib.hid hs
  clear h hd hb hk hz hz' hu hs
  go_enter Tryz.func226, Tryz.ntmps226
  go_wp2_with fail
  refine HS.out.mono ?_
  rintro e w1 ⟨rfl, hb1⟩
  have g1 : Gr [] w w1 := Gr.ofBelow hb1
  have HG1 := Lib.hid g1
  have c0 := (H.out.gr0 g1).c0
  clear g1 hb1
  go_wp2_with fail
  refine (lput_any a D z s c w1 (HD.out.1.gr0 HG1.out) HD.out.2 (by omega) HSS.out).mono ?_
  rintro e w2 ⟨rfl, hd2, hb2, g2⟩
  have HD2 := Lib.hid (And.intro hd2 (And.intro hb2 (HG1.out.of0.trans g2)))
  have H2 := Lib.hid ((H.out.gr0 HG1.out).grD g2)
  clear hd2 hb2 g2
  have HR0 := Lib.hid (show replaceS p i s D B = replaceS p i s D B from rfl)
  obtain ⟨e1, he1⟩ : ∃ e1, e1 = (putE D z s).1 := ⟨_, rfl⟩
  obtain ⟨D1, hD1⟩ : ∃ D1, D1 = (putE D z s).2 := ⟨_, rfl⟩
  rw [← he1]
  rw [← hD1] at HD2
  have HE := Lib.hid (And.intro he1 hD1)
  clear he1 hD1
  by_cases hz0 : e1 = 0
  · subst hz0
    obtain ⟨iN, rfl⟩ : ∃ iN : Nat, i = (iN : Int) := ⟨i.toNat, by omega⟩
    have hwf : WfZ (iN : Int) := wfZ (by omega) (by omega)
    have hi9 : iN < 1026 := by omega
    have c0 := H2.out.c0
    have x1 : (k : Int).tdiv 8 = (k : Int) / 8 := Int.tdiv_eq_ediv_of_nonneg (by omega)
    have x2 : (k : Int).tmod 8 = (k : Int) % 8 := Int.tmod_eq_emod_of_nonneg (by omega)
    have x3 : IntKind.i64.wrap ((k : Int) / 8) = (k : Int) / 8 := IntWalk.i64_in _ (by omega)
    have x4 : IntKind.i64.wrap (p.a + (k : Int) / 8) = p.a + (k : Int) / 8 := IntWalk.i64_in _ (by omega)
    have x5 : IntKind.i64.wrap ((k : Int) % 8) = (k : Int) % 8 := IntWalk.i64_in _ (by omega)
    go_wp2_with fail
    refine (took_any a D1 z s w2 HD2.out.1 HSS.out).mono ?_
    rintro e w4 ⟨rfl, g4⟩
    have HD4 := Lib.hid (And.intro (HD2.out.1.gr0 g4) (And.intro HD2.out.2.1 (HD2.out.2.2.next0 g4)))
    have H4 := Lib.hid (H2.out.gr0 g4)
    have c0 := H4.out.c0
    have c1 := H4.out.c1
    clear g4
    cases htk : tookB D1 z s with
    | true =>
      have HGd := Lib.hid (show ∀ W, Calls Tryz.prog 149 #[.int .u64 ((iN : Int) + 1)] W fun e w' => e = .returned (.int .u64 (guardN (iN + 1) : Nat)) ∧ Below W.heap.size W w' from fun W => guard_any (iN + 1) W (by omega))
      have HMK := Lib.hid (show markN D1 z (iN : Int) s = (iN + 1) by unfold markN; rw [htk]; simp)
      obtain ⟨G, hG⟩ : ∃ G, G = guardN (iN + 1) := ⟨_, rfl⟩
      rw [← hG] at HGd
      have hGlt : G < 18446744073709551616 := by rw [hG]; exact guardN_lt _ (by omega)
      have HGG := Lib.hid hG
      have HTK := Lib.hid htk
      clear htk hG
      go_wp2_with fail
      have HX0 := Lib.hid (And.intro (HD4.out.1.gr0 (Gr.refl [] w4).drew) (H4.out.gr0 (Gr.refl [] w4).drew))
      go_region_held3 (fun w' : World => w'.cell? ⟨q.b, 0, none⟩ = some (.pointer (some ⟨a.bd, 0, none⟩)) ∧ w'.cell? ⟨q.b, 1, none⟩ = some (.int .i64 p.a)) (first | assumption | go_keep) ((first
        | (go_at_call 192; refine (putword_any a D1 (p.a + (k : Int) / 8) ((k : Int) % 8) G (c + 10) w5 HX5.out.1 HD4.out.2.1 (by omega) hGlt).mono ?_; rintro e w6 ⟨rfl, hd6, hb6, g6⟩; have s6a := (HX5.out.2.1.grD g6).c0; have s6b := (HX5.out.2.1.grD g6).c1; have HX6 := Lib.hid (And.intro hd6 (And.intro hb6 (And.intro (HX5.out.2.1.grD g6) (HX5.out.2.2.trans g6)))); clear hd6 hb6 g6)
        | (go_at_call 149; refine (HGd.out _).mono ?_; rintro e w5 ⟨rfl, hb5⟩; have g5 : Gr [] _ w5 := Gr.ofBelow (cs := []) hb5; have s5a := (HX0.out.2.gr0 g5).c0; have s5b := (HX0.out.2.gr0 g5).c1; have HX5 := Lib.hid (And.intro (HX0.out.1.gr0 g5) (And.intro (HX0.out.2.gr0 g5) ((HD4.out.2.2.drew).next0 g5))); clear g5 hb5)))
      obtain ⟨e2, he2⟩ : ∃ e2, e2 = (pwE D1 (p.a + (k : Int) / 8) ((k : Int) % 8) G).1 := ⟨_, rfl⟩
      obtain ⟨D2, hD2⟩ : ∃ D2, D2 = (pwE D1 (p.a + (k : Int) / 8) ((k : Int) % 8) G).2 := ⟨_, rfl⟩
      rw [← hD2] at HX6
      rw [← he2]
      have HE2 := Lib.hid (And.intro he2 hD2)
      clear he2 hD2
      by_cases hz2 : e2 = 0
      · subst hz2
        have HR := Lib.hid (show replaceS p (iN : Int) s D B = ⟨true, 0, D2, ⟨B.used + 1, updZ B.wh (iN : Int) (some k)⟩⟩ by
          unfold replaceS
          rw [← HK.out.1, ← HK.out.2, ← HE.out.1, ← HE.out.2, HMK.out, ← HGG.out, ← HE2.out.1, ← HE2.out.2, HTK.out]
          simp [HK.out.1])
        have HB6 := HX6.out.2.2.1
        have d4 := HB6.c4
        rw [← HK.out.1] at d4
        have d4f := HB6.head.frozen 4
        have hku : (B.used : Int) < p.s := by rw [← HK.out.1]; exact hu'
        obtain ⟨hb7, g7⟩ := bk_used HB6 hku
        have HB7 := Lib.hid (And.intro hb7 g7)
        obtain ⟨w8, hput, hM8, g8, hz8⟩ := hb7.map.put_runN (show m < maxLen by unfold maxLen; omega) hwf k
        have HB8 := Lib.hid (And.intro (bk_where hb7 hM8 g8 hu') g8)
        rw [← HK.out.1] at hput
        have d5 : (w6.setCell ⟨q.b, 4, none⟩ (.int .i64 ((k : Int) + 1))).cell? ⟨q.b, 5, none⟩ = some (.map (some q.bm)) := by rw [HK.out.1]; exact hb7.c5
        clear HB6 hb7 g7 hM8 g8 hz8 hku
        go_wp2_with fail
        go_ret2
        rw [HR.out]
        refine ⟨rfl, (HX6.out.1.gr HB7.out.2 ?_).gr HB8.out.2 ?_, HX6.out.2.1.mono (by omega), HB8.out.1, ?_⟩
        · intro b hb hc; simp at hc; subst hc; exact H.out.sep _ (by simp [BkA.all]) hb
        · intro b hb hc; simp at hc; subst hc; exact H.out.sep _ (by simp [BkA.all]) hb
        · exact ((HX6.out.2.2.2.mono (fun b hb => by simp [hb])).trans (HB7.out.2.mono (fun b hb => by simp at hb; simp [BkA.all, hb]))).trans (HB8.out.2.mono (fun b hb => by simp at hb; simp [BkA.all, hb]))
      · have b1 : (e2 != 0) = true := by simpa using hz2
        have HR := Lib.hid (show replaceS p (iN : Int) s D B = ⟨false, e2, D2, B⟩ by
          unfold replaceS
          rw [← HK.out.1, ← HK.out.2, ← HE.out.1, ← HE.out.2, HMK.out, ← HGG.out, ← HE2.out.1, ← HE2.out.2, if_neg (by simp), if_pos hz2])
        clear hz2
        go_wp2_with fail
        go_ret2
        rw [HR.out]
        exact ⟨rfl, HX6.out.1, HX6.out.2.1.mono (by omega), HX6.out.2.2.1.more, HX6.out.2.2.2.mono (fun b hb => by simp [hb])⟩
    | false =>
      have HGd := Lib.hid (show ∀ W, Calls Tryz.prog 149 #[.int .u64 65535] W fun e w' => e = .returned (.int .u64 (guardN 65535 : Nat)) ∧ Below W.heap.size W w' from fun W => guard_any 65535 W (by omega))
      have HMK := Lib.hid (show markN D1 z (iN : Int) s = 65535 by unfold markN; rw [htk]; simp)
      obtain ⟨G, hG⟩ : ∃ G, G = guardN 65535 := ⟨_, rfl⟩
      rw [← hG] at HGd
      have hGlt : G < 18446744073709551616 := by rw [hG]; exact guardN_lt _ (by omega)
      have HGG := Lib.hid hG
      have HTK := Lib.hid htk
      clear htk hG
      go_wp2_with fail
      have HX0 := Lib.hid (And.intro (HD4.out.1.gr0 (Gr.refl [] w4).drew) (H4.out.gr0 (Gr.refl [] w4).drew))
      go_region_held3 (fun w' : World => w'.cell? ⟨q.b, 0, none⟩ = some (.pointer (some ⟨a.bd, 0, none⟩)) ∧ w'.cell? ⟨q.b, 1, none⟩ = some (.int .i64 p.a)) (first | assumption | go_keep) ((first
        | (go_at_call 192; refine (putword_any a D1 (p.a + (k : Int) / 8) ((k : Int) % 8) G (c + 10) w5 HX5.out.1 HD4.out.2.1 (by omega) hGlt).mono ?_; rintro e w6 ⟨rfl, hd6, hb6, g6⟩; have s6a := (HX5.out.2.1.grD g6).c0; have s6b := (HX5.out.2.1.grD g6).c1; have HX6 := Lib.hid (And.intro hd6 (And.intro hb6 (And.intro (HX5.out.2.1.grD g6) (HX5.out.2.2.trans g6)))); clear hd6 hb6 g6)
        | (go_at_call 149; refine (HGd.out _).mono ?_; rintro e w5 ⟨rfl, hb5⟩; have g5 : Gr [] _ w5 := Gr.ofBelow (cs := []) hb5; have s5a := (HX0.out.2.gr0 g5).c0; have s5b := (HX0.out.2.gr0 g5).c1; have HX5 := Lib.hid (And.intro (HX0.out.1.gr0 g5) (And.intro (HX0.out.2.gr0 g5) ((HD4.out.2.2.drew).next0 g5))); clear g5 hb5)))
      obtain ⟨e2, he2⟩ : ∃ e2, e2 = (pwE D1 (p.a + (k : Int) / 8) ((k : Int) % 8) G).1 := ⟨_, rfl⟩
      obtain ⟨D2, hD2⟩ : ∃ D2, D2 = (pwE D1 (p.a + (k : Int) / 8) ((k : Int) % 8) G).2 := ⟨_, rfl⟩
      rw [← hD2] at HX6
      rw [← he2]
      have HE2 := Lib.hid (And.intro he2 hD2)
      clear he2 hD2
      by_cases hz2 : e2 = 0
      · subst hz2
        have HR := Lib.hid (show replaceS p (iN : Int) s D B = ⟨false, 0, D2, ⟨B.used + 1, B.wh⟩⟩ by
          unfold replaceS
          rw [← HK.out.1, ← HK.out.2, ← HE.out.1, ← HE.out.2, HMK.out, ← HGG.out, ← HE2.out.1, ← HE2.out.2, HTK.out]
          simp [HK.out.1])
        have HB6 := HX6.out.2.2.1
        have d4 := HB6.c4
        rw [← HK.out.1] at d4
        have d4f := HB6.head.frozen 4
        have hku : (B.used : Int) < p.s := by rw [← HK.out.1]; exact hu'
        obtain ⟨hb7, g7⟩ := bk_used HB6 hku
        have HB7 := Lib.hid (And.intro hb7 g7)
        clear HB6 hb7 g7 hku
        go_wp2_with fail
        go_ret2
        rw [HR.out]
        have e9 : (k : Int) + 1 = (B.used : Int) + 1 := by rw [HK.out.1]
        rw [e9]
        refine ⟨rfl, HX6.out.1.gr HB7.out.2 ?_, HX6.out.2.1.mono (by omega), HB7.out.1.more, ?_⟩
        · intro b hb hc; simp at hc; subst hc; exact H.out.sep _ (by simp [BkA.all]) hb
        · exact (HX6.out.2.2.2.mono (fun b hb => by simp [hb])).trans (HB7.out.2.mono (fun b hb => by simp at hb; simp [BkA.all, hb]))
      · have b1 : (e2 != 0) = true := by simpa using hz2
        have HR := Lib.hid (show replaceS p (iN : Int) s D B = ⟨false, e2, D2, B⟩ by
          unfold replaceS
          rw [← HK.out.1, ← HK.out.2, ← HE.out.1, ← HE.out.2, HMK.out, ← HGG.out, ← HE2.out.1, ← HE2.out.2, if_neg (by simp), if_pos hz2])
        clear hz2
        go_wp2_with fail
        go_ret2
        rw [HR.out]
        exact ⟨rfl, HX6.out.1, HX6.out.2.1.mono (by omega), HX6.out.2.2.1.more, HX6.out.2.2.2.mono (fun b hb => by simp [hb])⟩
  · have b1 : (e1 != 0) = true := by simpa using hz0
    have HR := Lib.hid (show replaceS p i s D B = ⟨false, e1, D1, B⟩ by
      unfold replaceS
      rw [← HK.out.1, ← HK.out.2, ← HE.out.1, ← HE.out.2, if_pos hz0])
    clear hz0
    go_wp2_with fail
    go_ret2
    rw [HR.out]
    exact ⟨rfl, HD2.out.1, HD2.out.2.1.mono (by omega), H2.out.more, HD2.out.2.2.mono (fun b hb => by simp [hb])⟩
end
end Go.Proofs.YtefmbchebobceaaGreat
