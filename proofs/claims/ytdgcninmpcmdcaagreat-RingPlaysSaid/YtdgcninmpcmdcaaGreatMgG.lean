/-
  MgG: GapF, GapG.
-/
import Derived.Test.YtdgcninmpcmdcaaGreatMgY
import Derived.Test.YtdgcninmpcmdcaaGreatLe

/-
  Contracts of Pack and Unpack.
-/
namespace Go.Proofs.YtdgcninmpcmdcaaGreat
open Go.RowKit

/-- A state as a word. -/
def pkI (s g m : Int) : Int := m * 4294967296 + g % 65536 * 65536 + s % 65536
theorem pkI_b (s g m : Int) (hm : 0 ≤ m ∧ m ≤ 4294967295) : 0 ≤ pkI s g m ∧ pkI s g m < 18446744073709551616 := by unfold pkI; omega
theorem pk_a (S : Nat) : withN 0 0 16 S = S % 65536 := by
  unfold withN
  rw [if_pos (by unfold okF; omega)]
  show (0 / 2 ^ (0 + 16)) * 2 ^ (0 + 16) + (S % 2 ^ 16) * 2 ^ 0 + 0 % 2 ^ 0 = _
  omega
theorem pk_b (x G : Nat) (hx : x < 65536) : withN x 16 16 G = G % 65536 * 65536 + x := by
  unfold withN
  rw [if_pos (by unfold okF; omega)]
  show (x / 2 ^ (16 + 16)) * 2 ^ (16 + 16) + (G % 2 ^ 16) * 2 ^ 16 + x % 2 ^ 16 = _
  omega
theorem pk_c (x M : Nat) (hx : x < 4294967296) (hM : M < 4294967296) : withN x 32 32 M = M * 4294967296 + x := by
  unfold withN
  rw [if_pos (by unfold okF; omega)]
  show (x / 2 ^ (32 + 32)) * 2 ^ (32 + 32) + (M % 2 ^ 32) * 2 ^ 32 + x % 2 ^ 32 = _
  omega
theorem f_a (n : Nat) : fieldN n 0 16 = n % 65536 := by
  unfold fieldN
  rw [if_pos (by unfold okF; omega)]
  show n / 2 ^ 0 % 2 ^ 16 = _
  omega
theorem f_b (n : Nat) : fieldN n 16 16 = n / 65536 % 65536 := by
  unfold fieldN
  rw [if_pos (by unfold okF; omega)]
  show n / 2 ^ 16 % 2 ^ 16 = _
  omega
theorem f_c (n : Nat) (hn : n < 18446744073709551616) : fieldN n 32 32 = n / 4294967296 := by
  unfold fieldN
  rw [if_pos (by unfold okF; omega)]
  show n / 2 ^ 32 % 2 ^ 32 = _
  omega
/-- An int, made a word. -/
theorem u64_of (x : Int) : ∃ n : Nat, IntKind.u64.wrap x = (n : Int) ∧ n < 18446744073709551616 ∧ ((n % 65536 : Nat) : Int) = x % 65536 := by
  refine ⟨(x % 18446744073709551616).toNat, ?_, by omega, by omega⟩
  rw [IntKind.wrap_u64]; omega

set_option maxHeartbeats 800000 in
theorem pack_any (s g m : Int) (w : World) (hm : 0 ≤ m ∧ m ≤ 4294967295) :
    Calls Tryz.prog 69 #[.agg #[.int .i64 s, .int .i64 g, .int .u32 m]] w fun e w' => e = .returned (.int .u64 (pkI s g m)) ∧ w.alloc (stC s g m) = w' := by
  obtain ⟨S, hS, hS1, hS2⟩ := u64_of s
  obtain ⟨G, hG, hG1, hG2⟩ := u64_of g
  obtain ⟨M, rfl⟩ := Int.eq_ofNat_of_zero_le hm.1
  have hM : M < 4294967296 := by omega
  obtain ⟨x, hx, hxb⟩ : ∃ x : Nat, withN 0 0 16 S = x ∧ x = S % 65536 := ⟨_, pk_a S, rfl⟩
  obtain ⟨y, hy, hyb⟩ : ∃ y : Nat, withN x 16 16 G = y ∧ y = G % 65536 * 65536 + x := ⟨_, pk_b x G (by omega), rfl⟩
  obtain ⟨z, hz, hzb⟩ : ∃ z : Nat, withN y 32 32 M = z ∧ z = M * 4294967296 + y := ⟨_, pk_c y M (by omega) hM, rfl⟩
  have hfin : (z : Int) = pkI s g M := by unfold pkI; omega
  have hb1 : x < 18446744073709551616 := by omega
  have hb2 : y < 18446744073709551616 := by omega
  clear hxb hyb hzb
  have p1 := Lib.hid hx
  have p2 := Lib.hid hy
  have p3 := Lib.hid hz
  have HF := Lib.hid hfin
  clear hx hy hz
  clear hfin hS2 hG2
  go_enter Tryz.func69, Tryz.ntmps69
  go_wp2_with fail
  refine (with_any 0 _ _ S _ (by omega) (by omega) (by omega)).mono ?_
  rintro e w1 ⟨rfl, rfl⟩
  rw [p1.out]
  go_wp2_with fail
  refine (with_any x _ _ G _ hb1 (by omega) (by omega)).mono ?_
  rintro e w1 ⟨rfl, rfl⟩
  rw [p2.out]
  go_wp2_with fail
  refine (with_any y _ _ M _ hb2 (by omega) (by omega)).mono ?_
  rintro e w1 ⟨rfl, rfl⟩
  rw [p3.out]
  go_wp2_with fail
  go_ret
  exact ⟨by rw [← HF.out] <;> rfl, rfl⟩

def unS (n : Nat) : Int := ((n % 65536 : Nat) : Int)
def unG (n : Nat) : Int := ((n / 65536 % 65536 : Nat) : Int)
def unM (n : Nat) : Int := ((n / 4294967296 : Nat) : Int)
set_option maxHeartbeats 800000 in
theorem unpack_any (n : Nat) (w : World) (hn : n < 18446744073709551616) :
    Calls Tryz.prog 64 #[.int .u64 n] w fun e w' => e = .returned (.agg #[.int .i64 (unS n), .int .i64 (unG n), .int .u32 (unM n)]) ∧ Below w.heap.size w w' := by
  have e1 : ((fieldN n 0 16 : Nat) : Int) = unS n := by rw [f_a]; rfl
  have e2 : ((fieldN n 16 16 : Nat) : Int) = unG n := by rw [f_b]; rfl
  have e3 : ((fieldN n 32 32 : Nat) : Int) = unM n := by rw [f_c n hn]; rfl
  have b1 : 0 ≤ unS n ∧ unS n ≤ 65535 := by unfold unS; omega
  have b2 : 0 ≤ unG n ∧ unG n ≤ 65535 := by unfold unG; omega
  have b3 : 0 ≤ unM n ∧ unM n ≤ 4294967295 := by unfold unM; omega
  go_enter Tryz.func64, Tryz.ntmps64
  go_wp2_with fail
  refine (field_any n _ _ _ hn (by omega) (by omega)).mono ?_
  rintro e w1 ⟨rfl, rfl⟩
  rw [e1]
  go_wp2_with fail
  refine (field_any n _ _ _ hn (by omega) (by omega)).mono ?_
  rintro e w1 ⟨rfl, rfl⟩
  rw [e2]
  go_wp2_with fail
  refine (field_any n _ _ _ hn (by omega) (by omega)).mono ?_
  rintro e w1 ⟨rfl, rfl⟩
  rw [e3]
  go_wp2_with fail
  exact bodyPost_ret (v := .agg #[.int .i64 (unS n), .int .i64 (unG n), .int .u32 (unM n)]) (by simp [results, Tryz.results64, go_sem]) rfl ⟨rfl, by go_grown⟩

theorem rpack_eq (s g m : Int) (hm : 0 ≤ m ∧ m ≤ 4294967295) :
    IntKind.u64.wrap (IntKind.u64.wrap (m * 4294967296 + IntKind.u64.wrap (IntKind.u64.wrap (IntKind.u16.wrap g) * 65536)) + IntKind.u64.wrap (IntKind.u16.wrap s)) = pkI s g m := by
  simp only [IntKind.wrap_u64, IntKind.wrap_u16]
  unfold pkI
  omega
set_option maxHeartbeats 800000 in
theorem rpack_any (s g m : Int) (w : World) (hm : 0 ≤ m ∧ m ≤ 4294967295) :
    Calls Tryz.prog 74 #[.int .i64 s, .int .i64 g, .int .u64 m] w fun e w' => e = .returned (.int .u64 (pkI s g m)) ∧ w = w' := by
  have HF := Lib.hid (rpack_eq s g m hm)
  go_enter Tryz.func74, Tryz.ntmps74
  go_wp2
  go_ret
  exact ⟨congrArg (fun x => Ending.returned (Value.int .u64 x)) HF.out, rfl⟩

end Go.Proofs.YtdgcninmpcmdcaaGreat

/-
  The walk of GapPacks.
-/
namespace Go.Proofs.YtdgcninmpcmdcaaGreat
open Go.RowKit

theorem pack_bel (s g m : Int) (w : World) (hm : 0 ≤ m ∧ m ≤ 4294967295) :
    Calls Tryz.prog 69 #[.agg #[.int .i64 s, .int .i64 g, .int .u32 m]] w fun e w' => e = .returned (.int .u64 (pkI s g m)) ∧ Below w.heap.size w w' :=
  (pack_any s g m w hm).mono fun e w' ⟨he, hw⟩ => ⟨he, hw ▸ below_new (Below.refl _ _) _⟩
theorem rpack_bel (s g m : Int) (w : World) (hm : 0 ≤ m ∧ m ≤ 4294967295) :
    Calls Tryz.prog 74 #[.int .i64 s, .int .i64 g, .int .u64 m] w fun e w' => e = .returned (.int .u64 (pkI s g m)) ∧ Below w.heap.size w w' :=
  (rpack_any s g m w hm).mono fun e w' ⟨he, hw⟩ => ⟨he, hw ▸ Below.refl _ _⟩
theorem unpack_pk (s g m : Int) (w : World) (hm : 0 ≤ m ∧ m ≤ 4294967295) (hs : 0 ≤ s ∧ s ≤ 65535) (hg : 0 ≤ g ∧ g ≤ 65535) :
    Calls Tryz.prog 64 #[.int .u64 (pkI s g m)] w fun e w' => e = .returned (.agg #[.int .i64 s, .int .i64 g, .int .u32 m]) ∧ Below w.heap.size w w' := by
  obtain ⟨n, hn⟩ := Int.eq_ofNat_of_zero_le (pkI_b s g m hm).1
  have hl := (pkI_b s g m hm).2
  rw [hn] at hl
  have hn' := hn
  unfold pkI at hn'
  have e1 : unS n = s := by unfold unS; omega
  have e2 : unG n = g := by unfold unG; omega
  have e3 : unM n = m := by unfold unM; omega
  rw [hn, ← e1, ← e2, ← e3]
  exact unpack_any n w (by omega)
theorem pack_un (n : Nat) (hn : n < 18446744073709551616) : pkI (unS n) (unG n) (unM n) = (n : Int) := by
  unfold pkI unS unG unM; omega

end Go.Proofs.YtdgcninmpcmdcaaGreat
