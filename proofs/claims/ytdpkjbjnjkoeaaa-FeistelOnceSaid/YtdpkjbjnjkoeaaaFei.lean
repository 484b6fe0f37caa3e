/-
  Contracts of package feistel: mask, mix.
-/
import Derived.Test.YtdpkjbjnjkoeaaaFeiP
import Derived.Test.YtdpkjbjnjkoeaaaBase
namespace Go.Proofs.Ytdpkjbjnjkoeaaa
open Go.RowKit

/-- A Perm's value. -/
def pmV (sz h : Int) (a b c d : Int) : Value := .agg #[.int .i64 sz, .int .i64 h, .int .u16 a, .int .u16 b, .int .u16 c, .int .u16 d]
def mixN (x k h : Nat) : Nat := (((x % 65536) * 40503 + k * 52711 + 12289) % 65536 ^^^ ((x % 65536) * 40503 + k * 52711 + 12289) % 65536 / 128) % 2 ^ h
theorem mixN_lt (x k h : Nat) : mixN x k h < 2 ^ h := Nat.mod_lt _ (Nat.pow_pos (by omega))

theorem i64_and_nat (a b : Nat) (ha : a < 2147483648) (hb : b < 2147483648) : bits .and .i64 (a : Int) (b : Int) = ((a &&& b : Nat) : Int) := by
  have e : (BitVec.ofInt 64 (a : Int) &&& BitVec.ofInt 64 (b : Int)).toNat = a &&& b := by
    rw [BitVec.toNat_and, BitVec.ofInt_natCast, BitVec.ofInt_natCast, BitVec.toNat_ofNat, BitVec.toNat_ofNat, Nat.mod_eq_of_lt (by omega), Nat.mod_eq_of_lt (by omega)]
  have l : a &&& b < 2 ^ 31 := Nat.lt_of_le_of_lt Nat.and_le_left ha
  show IntKind.i64.wrap ((BitVec.ofInt 64 (a : Int) &&& BitVec.ofInt 64 (b : Int)).toNat : Int) = _
  rw [e]
  exact IntWalk.i64_in _ (by omega)
theorem i64_xor_nat (a b : Nat) (ha : a < 2147483648) (hb : b < 2147483648) : bits .xor .i64 (a : Int) (b : Int) = ((a ^^^ b : Nat) : Int) := by
  have e : (BitVec.ofInt 64 (a : Int) ^^^ BitVec.ofInt 64 (b : Int)).toNat = a ^^^ b := by
    rw [BitVec.toNat_xor, BitVec.ofInt_natCast, BitVec.ofInt_natCast, BitVec.toNat_ofNat, BitVec.toNat_ofNat, Nat.mod_eq_of_lt (by omega), Nat.mod_eq_of_lt (by omega)]
  have l : a ^^^ b < 2 ^ 31 := Nat.xor_lt_two_pow ha hb
  show IntKind.i64.wrap ((BitVec.ofInt 64 (a : Int) ^^^ BitVec.ofInt 64 (b : Int)).toNat : Int) = _
  rw [e]
  exact IntWalk.i64_in _ (by omega)
theorem i64_or_nat (a b : Nat) (ha : a < 2147483648) (hb : b < 2147483648) : bits .or .i64 (a : Int) (b : Int) = ((a ||| b : Nat) : Int) := by
  have e : (BitVec.ofInt 64 (a : Int) ||| BitVec.ofInt 64 (b : Int)).toNat = a ||| b := by
    rw [BitVec.toNat_or, BitVec.ofInt_natCast, BitVec.ofInt_natCast, BitVec.toNat_ofNat, BitVec.toNat_ofNat, Nat.mod_eq_of_lt (by omega), Nat.mod_eq_of_lt (by omega)]
  have l : a ||| b < 2 ^ 31 := Nat.or_lt_two_pow ha hb
  show IntKind.i64.wrap ((BitVec.ofInt 64 (a : Int) ||| BitVec.ofInt 64 (b : Int)).toNat : Int) = _
  rw [e]
  exact IntWalk.i64_in _ (by omega)
theorem mix_walk (x k h : Nat) (h2 : h ≤ 7) (hx : x < 65536) (_hk : k < 65536) :
    bits BinOp.and IntKind.i64 (wrap64 (bits BinOp.xor IntKind.u16 (IntKind.u16.wrap (IntKind.u16.wrap (IntKind.u16.wrap ((x : Int) * 40503) + IntKind.u16.wrap ((k : Int) * 52711)) + 12289))
      (IntKind.u16.wrap (IntKind.u16.wrap (IntKind.u16.wrap ((x : Int) * 40503) + IntKind.u16.wrap ((k : Int) * 52711)) + 12289) / 128))) ((2 ^ h - 1 : Nat) : Int) = ((mixN x k h : Nat) : Int) := by
  obtain ⟨S, hS⟩ : ∃ S : Nat, S = (x * 40503 + k * 52711 + 12289) % 65536 := ⟨_, rfl⟩
  have e1 : IntKind.u16.wrap (IntKind.u16.wrap (IntKind.u16.wrap ((x : Int) * 40503) + IntKind.u16.wrap ((k : Int) * 52711)) + 12289) = (S : Int) := by
    simp only [IntKind.wrap_u16]; omega
  have hl : S < 65536 := by omega
  have e2 : (S : Int) / 128 = ((S / 128 : Nat) : Int) := by omega
  rw [e1, e2, u16_xor_nat _ _ hl (by omega)]
  have hT : S ^^^ S / 128 < 2 ^ 16 := Nat.xor_lt_two_pow hl (by omega)
  have e3 : wrap64 ((S ^^^ S / 128 : Nat) : Int) = ((S ^^^ S / 128 : Nat) : Int) := by unfold wrap64; omega
  have hp : (2 : Nat) ^ h ≤ 2 ^ 7 := Nat.pow_le_pow_right (by omega) h2
  rw [e3, i64_and_nat _ _ (by omega) (by omega), Nat.and_two_pow_sub_one_eq_mod]
  unfold mixN
  rw [Nat.mod_eq_of_lt hx, ← hS]

set_option maxHeartbeats 800000 in
theorem mask_any (sz a b c d : Int) (h : Nat) (w : World) (h1 : 1 ≤ h) (h2 : h ≤ 7) :
    Calls Try.prog 65 #[.agg #[.int .i64 sz, .int .i64 h, .int .u16 a, .int .u16 b, .int .u16 c, .int .u16 d]] w fun e w' => e = .returned (.int .i64 ((2 ^ h - 1 : Nat) : Int)) ∧ Below w.heap.size w w' := by
  have hc : h = 1 ∨ h = 2 ∨ h = 3 ∨ h = 4 ∨ h = 5 ∨ h = 6 ∨ h = 7 := by omega
  rcases hc with rfl | rfl | rfl | rfl | rfl | rfl | rfl
  all_goals
    go_enter Try.func65, Try.ntmps65
    go_wp2
    go_ret
    exact ⟨rfl, by go_grown⟩

set_option maxHeartbeats 1000000 in
theorem mix_any (sz a b c d : Int) (h x k : Nat) (w : World) (h1 : 1 ≤ h) (h2 : h ≤ 7) (hx : x < 65536) (hk : k < 65536) :
    Calls Try.prog 66 #[.agg #[.int .i64 sz, .int .i64 h, .int .u16 a, .int .u16 b, .int .u16 c, .int .u16 d], .int .i64 x, .int .u16 k] w fun e w' => e = .returned (.int .i64 ((mixN x k h : Nat) : Int)) ∧ Below w.heap.size w w' := by
  go_enter Try.func66, Try.ntmps66
  go_wp2_with fail
  refine (mask_any sz a b c d h _ h1 h2).mono ?_
  rintro e w1 ⟨rfl, hb1⟩
  have B1 := below_new (Below.refl _ w) (Obj.cells #[Value.int IntKind.i64 sz, Value.int IntKind.i64 h, Value.int IntKind.u16 a, Value.int IntKind.u16 b, Value.int IntKind.u16 c, Value.int IntKind.u16 d] 27)
  have HB := Lib.hid (below_next B1 hb1)
  clear B1 hb1
  go_wp2_with fail
  rw [mix_walk x k h h2 hx hk]
  go_ret
  exact ⟨rfl, HB.out⟩

end Go.Proofs.Ytdpkjbjnjkoeaaa
