/-
  PkAy: GapB, GapC, GapF, GapG, RgA.
-/
import Derived.Test.YtjbhallhmnahbaaGreatPkAx
import Derived.Test.YtjbhallhmnahbaaGreatPkAa
import Derived.Test.YtjbhallhmnahbaaGreatPkAh

set_option linter.unusedVariables false

/-
  Contracts of gap's Next and First.
-/
namespace Go.Proofs.YtjbhallhmnahbaaGreat
open Go.RowKit

def m1 (m : Int) : Int := (m + 1) % 4294967296

set_option maxHeartbeats 800000 in
theorem next_pos (s g m n : Int) (w : World) (h : rightS s g n) (hg : 0 < g) (hm : 0 ≤ m ∧ m ≤ 4294967295) :
    Calls Tryz.prog 188 #[.agg #[.int .i64 s, .int .i64 g, .int .u32 m], .int .i64 n] w fun e w' => e = .returned (.tuple #[.agg #[.int .i64 s, .int .i64 (g - 1), .int .u32 (m1 m)], .int .i64 (g - 1), .int .i64 g]) ∧ Below w.heap.size w w' := by
  have H := Lib.hid h
  obtain ⟨a1, a2, a3, a4, a5, a6⟩ := h
  go_enter Tryz.func188, Tryz.ntmps188
  go_wp2_with (go_at_call 110; refine (right_yes _ _ _ _ _ H.out).mono ?_; rintro e w' ⟨rfl, rfl⟩; unfold stC)
  go_region
  go_wp2
  exact bodyPost_ret (v := .tuple #[(.agg #[.int .i64 s, .int .i64 (g - 1), .int .u32 ((m + 1) % 4294967296)]), .int .i64 (g - 1), .int .i64 g]) (by simp [results, Tryz.results188, go_sem]) rfl ⟨rfl, by go_grown⟩
set_option maxHeartbeats 800000 in
theorem next_zero (s m n : Int) (w : World) (h : rightS s 0 n) (hm : 0 ≤ m ∧ m ≤ 4294967295) :
    Calls Tryz.prog 188 #[.agg #[.int .i64 s, .int .i64 0, .int .u32 m], .int .i64 n] w fun e w' => e = .returned (.tuple #[.agg #[.int .i64 ((s + 1) % n), .int .i64 n, .int .u32 (m1 m)], .int .i64 n, .int .i64 0]) ∧ Below w.heap.size w w' := by
  have H := Lib.hid h
  obtain ⟨a1, a2, a3, a4, a5, a6⟩ := h
  go_enter Tryz.func188, Tryz.ntmps188
  go_wp2_with (go_at_call 110; refine (right_yes _ _ _ _ _ H.out).mono ?_; rintro e w' ⟨rfl, rfl⟩; unfold stC)
  exact bodyPost_ret (v := .tuple #[(.agg #[.int .i64 ((s + 1) % n), .int .i64 n, .int .u32 ((m + 1) % 4294967296)]), .int .i64 n, .int .i64 0]) (by simp [results, Tryz.results188, go_sem]) rfl ⟨rfl, by go_grown⟩
theorem first_any (n : Int) (w : World) (h1 : 1 ≤ n) (h2 : n ≤ 1024) :
    Calls Tryz.prog 95 #[.int .i64 n] w fun e w' => e = .returned (.agg #[.int .i64 0, .int .i64 n, .int .u32 0]) ∧ Below w.heap.size w w' := by
  go_enter Tryz.func95, Tryz.ntmps95
  go_wp2_with (go_at_call 147; refine (ring_yes _ _ (by omega) (by omega)).mono ?_; rintro e w' ⟨rfl, rfl⟩)
  exact bodyPost_ret (v := .agg #[.int .i64 0, .int .i64 n, .int .u32 0]) (by simp [results, Tryz.results95, go_sem]) rfl ⟨rfl, by go_grown⟩
end Go.Proofs.YtjbhallhmnahbaaGreat

/-
  Contracts of the helpers of layer 6's statements.
-/
namespace Go.Proofs.YtjbhallhmnahbaaGreat
open Go.RowKit

/-! ### The state behind so many moves, in numbers -/
theorem div_next (j M : Nat) (_hM : 0 < M) (h : j % M + 1 < M) : (j + 1) / M = j / M ∧ (j + 1) % M = j % M + 1 := by
  have e : j + 1 = M * (j / M) + (j % M + 1) := by have := Nat.div_add_mod j M; omega
  constructor
  · conv => lhs; rw [e]
    rw [Nat.mul_add_div (by omega), Nat.div_eq_of_lt h, Nat.add_zero]
  · conv => lhs; rw [e]
    rw [Nat.mul_add_mod, Nat.mod_eq_of_lt h]
theorem div_wrap (j M : Nat) (_hM : 0 < M) (h : ¬ j % M + 1 < M) : (j + 1) / M = j / M + 1 ∧ (j + 1) % M = 0 := by
  have hl := Nat.mod_lt j (show 0 < M by omega)
  have e : j + 1 = M * (j / M + 1) := by have := Nat.div_add_mod j M; rw [Nat.mul_add]; omega
  constructor
  · conv => lhs; rw [e]
    rw [Nat.mul_div_cancel_left _ (by omega)]
  · conv => lhs; rw [e]
    rw [Nat.mul_mod_right]

def sAt (m j : Nat) : Int := ((j / (m + 1) % m : Nat) : Int)
def gAt (m j : Nat) : Int := (m : Int) - ((j % (m + 1) : Nat) : Int)
theorem at_right (m j : Nat) (h1 : 1 ≤ m) (h2 : m ≤ 1024) : rightS (sAt m j) (gAt m j) m := by
  unfold rightS sAt gAt
  have a := Nat.mod_lt (j / (m + 1)) (show 0 < m by omega)
  have b := Nat.mod_lt j (show 0 < m + 1 by omega)
  omega
theorem at_pos (m j : Nat) (_h1 : 1 ≤ m) (h : 0 < gAt m j) : sAt m (j + 1) = sAt m j ∧ gAt m (j + 1) = gAt m j - 1 := by
  unfold gAt at h
  obtain ⟨a, b⟩ := div_next j (m + 1) (by omega) (by omega)
  unfold sAt gAt
  rw [a, b]
  exact ⟨rfl, by omega⟩
theorem at_zero (m j : Nat) (h1 : 1 ≤ m) (h : gAt m j = 0) : sAt m (j + 1) = (sAt m j + 1) % m ∧ gAt m (j + 1) = m := by
  unfold gAt at h
  obtain ⟨a, b⟩ := div_wrap j (m + 1) (by omega) (by omega)
  unfold sAt gAt
  rw [a, b]
  constructor
  · have : (j / (m + 1) + 1) % m = (j / (m + 1) % m + 1) % m := by rw [Nat.mod_add_mod]
    rw [this]; rfl
  · simp

/-! ### A block that holds a state -/
def StB (w : World) (b : Nat) (s g m : Int) : Prop := w.heap[b]? = some (stC s g m)
section
variable {w w' : World} {b : Nat} {s g m : Int}
theorem StB.lt (h : StB w b s g m) : b < w.heap.size := (Array.getElem?_eq_some_iff.1 h).1
theorem StB.cells (h : StB w b s g m) : w.cell? ⟨b, 0, none⟩ = some (.int .i64 s) ∧ w.cell? ⟨b, 1, none⟩ = some (.int .i64 g) ∧ w.cell? ⟨b, 2, none⟩ = some (.int .u32 m) :=
  ⟨cell_of_row w b 0 _ _ (0, 0) h, cell_of_row w b 1 _ _ (0, 0) h, cell_of_row w b 2 _ _ (0, 0) h⟩
theorem StB.frozen (h : StB w b s g m) : w.frozen? ⟨b, 0, none⟩ = false ∧ w.frozen? ⟨b, 1, none⟩ = false ∧ w.frozen? ⟨b, 2, none⟩ = false :=
  ⟨frozen_of_row w b 0 _ _ h, frozen_of_row w b 1 _ _ h, frozen_of_row w b 2 _ _ h⟩
theorem StB.new (w : World) (s g m : Int) : StB (w.alloc (stC s g m)) w.heap.size s g m := heap_alloc_new w _
theorem StB.alloc (h : StB w b s g m) (o : Obj) : StB (w.alloc o) b s g m := (Below.heap_alloc w o b h.lt).trans h
theorem StB.drew (h : StB w b s g m) : StB w.drew b s g m := h
end

end Go.Proofs.YtjbhallhmnahbaaGreat

/-
  Contracts of Pack and Unpack.
-/
namespace Go.Proofs.YtjbhallhmnahbaaGreat
open Go.RowKit

def pkI (s g m : Int) : Int := m * 4294967296 + g % 65536 * 65536 + s % 65536
theorem pkI_b (s g m : Int) (hm : 0 ≤ m ∧ m ≤ 4294967295) : 0 ≤ pkI s g m ∧ pkI s g m < 18446744073709551616 := by unfold pkI; omega
theorem pk_a (S : Nat) : withN 0 0 16 S = S % 65536 := by
  unfold withN
  rw [if_pos (by unfold okF; omega)]
  show (0 / 2 ^ (0 + 16)) * 2 ^ (0 + 16) + (S % 2 ^ 16) * 2 ^ 0 + 0 % 2 ^ 0 = _
  omega
theorem pk_b (x G : Nat) (hx : x < 65536) : withN x 16 16 G = G % 65536 * 65536 + x := by
  unfold withN
  rw [if_pos (by unfold okF; omega)]
  show (x / 2 ^ (16 + 16)) * 2 ^ (16 + 16) + (G % 2 ^ 16) * 2 ^ 16 + x % 2 ^ 16 = _
  omega
theorem pk_c (x M : Nat) (hx : x < 4294967296) (hM : M < 4294967296) : withN x 32 32 M = M * 4294967296 + x := by
  unfold withN
  rw [if_pos (by unfold okF; omega)]
  show (x / 2 ^ (32 + 32)) * 2 ^ (32 + 32) + (M % 2 ^ 32) * 2 ^ 32 + x % 2 ^ 32 = _
  omega
theorem f_a (n : Nat) : fieldN n 0 16 = n % 65536 := by
  unfold fieldN
  rw [if_pos (by unfold okF; omega)]
  show n / 2 ^ 0 % 2 ^ 16 = _
  omega
theorem f_b (n : Nat) : fieldN n 16 16 = n / 65536 % 65536 := by
  unfold fieldN
  rw [if_pos (by unfold okF; omega)]
  show n / 2 ^ 16 % 2 ^ 16 = _
  omega
theorem f_c (n : Nat) (hn : n < 18446744073709551616) : fieldN n 32 32 = n / 4294967296 := by
  unfold fieldN
  rw [if_pos (by unfold okF; omega)]
  show n / 2 ^ 32 % 2 ^ 32 = _
  omega
theorem u64_of (x : Int) : ∃ n : Nat, IntKind.u64.wrap x = (n : Int) ∧ n < 18446744073709551616 ∧ ((n % 65536 : Nat) : Int) = x % 65536 := by
  refine ⟨(x % 18446744073709551616).toNat, ?_, by omega, by omega⟩
  rw [IntKind.wrap_u64]; omega

set_option maxHeartbeats 800000 in
theorem pack_any (s g m : Int) (w : World) (hm : 0 ≤ m ∧ m ≤ 4294967295) :
    Calls Tryz.prog 96 #[.agg #[.int .i64 s, .int .i64 g, .int .u32 m]] w fun e w' => e = .returned (.int .u64 (pkI s g m)) ∧ w.alloc (stC s g m) = w' := by
  obtain ⟨S, hS, hS1, hS2⟩ := u64_of s
  obtain ⟨G, hG, hG1, hG2⟩ := u64_of g
  obtain ⟨M, rfl⟩ := Int.eq_ofNat_of_zero_le hm.1
  have hM : M < 4294967296 := by omega
  obtain ⟨x, hx, hxb⟩ : ∃ x : Nat, withN 0 0 16 S = x ∧ x = S % 65536 := ⟨_, pk_a S, rfl⟩
  obtain ⟨y, hy, hyb⟩ : ∃ y : Nat, withN x 16 16 G = y ∧ y = G % 65536 * 65536 + x := ⟨_, pk_b x G (by omega), rfl⟩
  obtain ⟨z, hz, hzb⟩ : ∃ z : Nat, withN y 32 32 M = z ∧ z = M * 4294967296 + y := ⟨_, pk_c y M (by omega) hM, rfl⟩
  have hfin : (z : Int) = pkI s g M := by unfold pkI; omega
  have hb1 : x < 18446744073709551616 := by omega
  have hb2 : y < 18446744073709551616 := by omega
  clear hxb hyb hzb
  have p1 := Lib.hid hx
  have p2 := Lib.hid hy
  have p3 := Lib.hid hz
  have HF := Lib.hid hfin
  clear hx hy hz
  clear hfin hS2 hG2
  go_enter Tryz.func96, Tryz.ntmps96
  go_wp2_with fail
  refine (with_any 0 _ _ S _ (by omega) (by omega) (by omega)).mono ?_
  rintro e w1 ⟨rfl, rfl⟩
  rw [p1.out]
  go_wp2_with fail
  refine (with_any x _ _ G _ hb1 (by omega) (by omega)).mono ?_
  rintro e w1 ⟨rfl, rfl⟩
  rw [p2.out]
  go_wp2_with fail
  refine (with_any y _ _ M _ hb2 (by omega) (by omega)).mono ?_
  rintro e w1 ⟨rfl, rfl⟩
  rw [p3.out]
  go_wp2_with fail
  go_ret
  exact ⟨by rw [← HF.out] <;> rfl, rfl⟩

def unS (n : Nat) : Int := ((n % 65536 : Nat) : Int)
def unG (n : Nat) : Int := ((n / 65536 % 65536 : Nat) : Int)
def unM (n : Nat) : Int := ((n / 4294967296 : Nat) : Int)
set_option maxHeartbeats 800000 in
theorem unpack_any (n : Nat) (w : World) (hn : n < 18446744073709551616) :
    Calls Tryz.prog 109 #[.int .u64 n] w fun e w' => e = .returned (.agg #[.int .i64 (unS n), .int .i64 (unG n), .int .u32 (unM n)]) ∧ Below w.heap.size w w' := by
  have e1 : ((fieldN n 0 16 : Nat) : Int) = unS n := by rw [f_a]; rfl
  have e2 : ((fieldN n 16 16 : Nat) : Int) = unG n := by rw [f_b]; rfl
  have e3 : ((fieldN n 32 32 : Nat) : Int) = unM n := by rw [f_c n hn]; rfl
  have b1 : 0 ≤ unS n ∧ unS n ≤ 65535 := by unfold unS; omega
  have b2 : 0 ≤ unG n ∧ unG n ≤ 65535 := by unfold unG; omega
  have b3 : 0 ≤ unM n ∧ unM n ≤ 4294967295 := by unfold unM; omega
  go_enter Tryz.func109, Tryz.ntmps109
  go_wp2_with fail
  refine (field_any n _ _ _ hn (by omega) (by omega)).mono ?_
  rintro e w1 ⟨rfl, rfl⟩
  rw [e1]
  go_wp2_with fail
  refine (field_any n _ _ _ hn (by omega) (by omega)).mono ?_
  rintro e w1 ⟨rfl, rfl⟩
  rw [e2]
  go_wp2_with fail
  refine (field_any n _ _ _ hn (by omega) (by omega)).mono ?_
  rintro e w1 ⟨rfl, rfl⟩
  rw [e3]
  go_wp2_with fail
  exact bodyPost_ret (v := .agg #[.int .i64 (unS n), .int .i64 (unG n), .int .u32 (unM n)]) (by simp [results, Tryz.results109, go_sem]) rfl ⟨rfl, by go_grown⟩

theorem rpack_eq (s g m : Int) (hm : 0 ≤ m ∧ m ≤ 4294967295) :
    IntKind.u64.wrap (IntKind.u64.wrap (m * 4294967296 + IntKind.u64.wrap (IntKind.u64.wrap (IntKind.u16.wrap g) * 65536)) + IntKind.u64.wrap (IntKind.u16.wrap s)) = pkI s g m := by
  simp only [IntKind.wrap_u64, IntKind.wrap_u16]
  unfold pkI
  omega
set_option maxHeartbeats 800000 in
theorem rpack_any (s g m : Int) (w : World) (hm : 0 ≤ m ∧ m ≤ 4294967295) :
    Calls Tryz.prog 102 #[.int .i64 s, .int .i64 g, .int .u64 m] w fun e w' => e = .returned (.int .u64 (pkI s g m)) ∧ w = w' := by
  have HF := Lib.hid (rpack_eq s g m hm)
  go_enter Tryz.func102, Tryz.ntmps102
  go_wp2
  go_ret
  exact ⟨congrArg (fun x => Ending.returned (Value.int .u64 x)) HF.out, rfl⟩

end Go.Proofs.YtjbhallhmnahbaaGreat

/-
  The walk of GapPacks.
-/
namespace Go.Proofs.YtjbhallhmnahbaaGreat
open Go.RowKit

theorem pack_bel (s g m : Int) (w : World) (hm : 0 ≤ m ∧ m ≤ 4294967295) :
    Calls Tryz.prog 96 #[.agg #[.int .i64 s, .int .i64 g, .int .u32 m]] w fun e w' => e = .returned (.int .u64 (pkI s g m)) ∧ Below w.heap.size w w' :=
  (pack_any s g m w hm).mono fun e w' ⟨he, hw⟩ => ⟨he, hw ▸ below_new (Below.refl _ _) _⟩
theorem unpack_pk (s g m : Int) (w : World) (hm : 0 ≤ m ∧ m ≤ 4294967295) (hs : 0 ≤ s ∧ s ≤ 65535) (hg : 0 ≤ g ∧ g ≤ 65535) :
    Calls Tryz.prog 109 #[.int .u64 (pkI s g m)] w fun e w' => e = .returned (.agg #[.int .i64 s, .int .i64 g, .int .u32 m]) ∧ Below w.heap.size w w' := by
  obtain ⟨n, hn⟩ := Int.eq_ofNat_of_zero_le (pkI_b s g m hm).1
  have hl := (pkI_b s g m hm).2
  rw [hn] at hl
  have hn' := hn
  unfold pkI at hn'
  have e1 : unS n = s := by unfold unS; omega
  have e2 : unG n = g := by unfold unG; omega
  have e3 : unM n = m := by unfold unM; omega
  rw [hn, ← e1, ← e2, ← e3]
  exact unpack_any n w (by omega)
end Go.Proofs.YtjbhallhmnahbaaGreat

/-
  Layer 7: a region in memory; Bank, Check, register, find, slot, State, Since.
-/
namespace Go.Proofs.YtjbhallhmnahbaaGreat
open Go.RowKit
set_option linter.unusedVariables false

structure PlanR where
  a : Int
  l : Nat
  s : Int
  psi : Int
def bankR (P : PlanR) : PlanZ := ⟨P.a, (P.l : Int) + 2, P.s⟩
structure OkR (P : PlanR) : Prop where
  l1 : 1 ≤ P.l
  l2 : P.l ≤ 1024
  p1 : 1 ≤ P.psi
  p2 : P.psi ≤ 65535
  ok : okZ (bankR P) = true
def planRV (P : PlanR) : Value := .agg #[.int .i64 P.a, .int .i64 (P.l : Int), .int .i64 P.s, .int .i64 P.psi]
def stJ (P : PlanR) (j : Nat) : Value := .agg #[.int .i64 (sAt P.l j), .int .i64 (gAt P.l j), .int .u32 (j : Int)]
def rgRow (P : PlanR) (q : BkA) (j c : Nat) : Array Value := #[.int .i64 P.a, .int .i64 (P.l : Int), .int .i64 P.s, .int .i64 P.psi, .pointer (some ⟨q.b, 0, none⟩), .int .i64 (sAt P.l j), .int .i64 (gAt P.l j), .int .u32 (j : Int), .int .i64 (c : Int)]
structure RgIs (w : World) (kb : Nat) (q : BkA) (a : DevA) (P : PlanR) (B : BkS) (m j c : Nat) : Prop where
  head : Holds w kb (rgRow P q j c) 182
  bk : BkIs w q a (bankR P) B m
  ok : OkR P
  kq : kb ∉ q.all
  ka : kb ∉ a.all
section
variable {w w' : World} {kb : Nat} {q : BkA} {a : DevA} {P : PlanR} {B : BkS} {m j c : Nat}
theorem RgIs.gr {bs : List Nat} (h : RgIs w kb q a P B m j c) (g : Gr bs w w') (hk : kb ∉ bs) (hn : ∀ b ∈ q.all, b ∉ bs) : RgIs w' kb q a P B m j c := ⟨h.head.gr g hk, h.bk.gr g hn, h.ok, h.kq, h.ka⟩
theorem RgIs.gr0 (h : RgIs w kb q a P B m j c) (g : Gr [] w w') : RgIs w' kb q a P B m j c := h.gr g (by simp) (by simp)
theorem RgIs.moreN (h : RgIs w kb q a P B m j c) {m' : Nat} (hm : m ≤ m') : RgIs w kb q a P B m' j c := ⟨h.head, h.bk.moreN _ hm, h.ok, h.kq, h.ka⟩
theorem RgIs.bank {B' : BkS} {m' : Nat} (h : RgIs w kb q a P B m j c) (g : Gr (q.all ++ a.all) w w') (k : BkIs w' q a (bankR P) B' m') : RgIs w' kb q a P B' m' j c :=
  ⟨h.head.gr g (by simp only [List.mem_append, not_or]; exact ⟨h.kq, h.ka⟩), k, h.ok, h.kq, h.ka⟩
theorem RgIs.c0 (h : RgIs w kb q a P B m j c) : w.cell? ⟨kb, 0, none⟩ = some (.int .i64 P.a) := h.head.cell 0
theorem RgIs.c1 (h : RgIs w kb q a P B m j c) : w.cell? ⟨kb, 1, none⟩ = some (.int .i64 (P.l : Int)) := h.head.cell 1
theorem RgIs.c2 (h : RgIs w kb q a P B m j c) : w.cell? ⟨kb, 2, none⟩ = some (.int .i64 P.s) := h.head.cell 2
theorem RgIs.c3 (h : RgIs w kb q a P B m j c) : w.cell? ⟨kb, 3, none⟩ = some (.int .i64 P.psi) := h.head.cell 3
theorem RgIs.c4 (h : RgIs w kb q a P B m j c) : w.cell? ⟨kb, 4, none⟩ = some (.pointer (some ⟨q.b, 0, none⟩)) := h.head.cell 4
theorem RgIs.c5 (h : RgIs w kb q a P B m j c) : w.cell? ⟨kb, 5, none⟩ = some (.int .i64 (sAt P.l j)) := h.head.cell 5
theorem RgIs.c6 (h : RgIs w kb q a P B m j c) : w.cell? ⟨kb, 6, none⟩ = some (.int .i64 (gAt P.l j)) := h.head.cell 6
theorem RgIs.c7 (h : RgIs w kb q a P B m j c) : w.cell? ⟨kb, 7, none⟩ = some (.int .u32 (j : Int)) := h.head.cell 7
theorem RgIs.c8 (h : RgIs w kb q a P B m j c) : w.cell? ⟨kb, 8, none⟩ = some (.int .i64 (c : Int)) := h.head.cell 8
theorem bankf_any (hP : OkR P) (w : World) : Calls Tryz.prog 84 #[planRV P] w fun e w' => e = .returned (planV (bankR P)) ∧ Gr [] w w' := by
  have hl := hP.l2
  have HG := Lib.hid (((Gr.refl [] w).alloc (Obj.cells #[.int .i64 P.a, .int .i64 (P.l : Int), .int .i64 P.s, .int .i64 P.psi] 107)).alloc (Obj.cells #[.int .i64 0, .int .i64 0, .int .i64 0] 158))
  obtain ⟨x, hx⟩ : ∃ x : Int, (P.l : Int) + 2 = x := ⟨_, rfl⟩
  have a1 : IntKind.i64.wrap x = x := IntWalk.i64_in _ (by omega)
  unfold planRV planV bankR
  rw [hx]
  clear hP hl
  go_enter Tryz.func84, Tryz.ntmps84
  go_wp2_with fail
  exact bodyPost_ret (v := .agg #[.int .i64 P.a, .int .i64 x, .int .i64 P.s]) (by simp [results, Tryz.results84, go_sem]) rfl ⟨rfl, ((Gr.refl [] w).alloc _).alloc _⟩
theorem reg_any (hP : OkR P) (w : World) : Calls Tryz.prog 94 #[planRV P] w fun e w' => e = .returned (.int .i64 ((P.l : Int) + 1)) ∧ Gr [] w w' := by
  have hl := hP.l2
  have HG := Lib.hid ((Gr.refl [] w).alloc (Obj.cells #[.int .i64 P.a, .int .i64 (P.l : Int), .int .i64 P.s, .int .i64 P.psi] 107))
  obtain ⟨x, hx⟩ : ∃ x : Int, (P.l : Int) + 1 = x := ⟨_, rfl⟩
  have a1 : IntKind.i64.wrap x = x := IntWalk.i64_in _ (by omega)
  unfold planRV
  rw [hx]
  clear hP hl
  go_enter Tryz.func94, Tryz.ntmps94
  go_wp2_with fail
  go_ret
  exact ⟨rfl, HG.out⟩
theorem rfind_in (i : Nat) (h : RgIs w kb q a P B m j c) (hi : i < P.l) : Calls Tryz.prog 127 #[.pointer (some ⟨kb, 0, none⟩), .int .i64 (i : Int)] w fun e w' => e = .returned (.int .i64 0) ∧ w' = w := by
  have c1 := h.c1
  have ik : ¬ ((i : Int) < 0) := by omega
  have ik2 : ¬ ((P.l : Int) ≤ (i : Int)) := by omega
  clear h
  go_enter Tryz.func127, Tryz.ntmps127
  go_wp2_with fail
  go_ret
  exact ⟨rfl, rfl⟩
theorem rstate_any (h : RgIs w kb q a P B m j c) : Calls Tryz.prog 81 #[.pointer (some ⟨kb, 0, none⟩)] w fun e w' => e = .returned (stJ P j) ∧ Gr [] w w' := by
  have HG := Lib.hid ((Gr.refl [] w).alloc (Obj.cells #[.int .i64 0, .int .i64 0, .int .u32 0] 154))
  have c5 := (HG.out.cell0 h.head.lt).trans h.c5
  have c6 := (HG.out.cell0 h.head.lt).trans h.c6
  have c7 := (HG.out.cell0 h.head.lt).trans h.c7
  unfold stJ
  clear h
  go_enter Tryz.func81, Tryz.ntmps81
  go_wp2_with fail
  exact bodyPost_ret (v := .agg #[.int .i64 (sAt P.l j), .int .i64 (gAt P.l j), .int .u32 (j : Int)]) (by simp [results, Tryz.results81, go_sem]) rfl ⟨rfl, by first | exact (Gr.refl [] w).alloc _ | exact ((((Gr.refl [] w).alloc _).setCell (p := ⟨w.heap.size, 0, none⟩) (.inr (Nat.le_refl _)) _).setCell (p := ⟨w.heap.size, 1, none⟩) (.inr (Nat.le_refl _)) _).setCell (p := ⟨w.heap.size, 2, none⟩) (.inr (Nat.le_refl _)) _⟩
def slotJ (P : PlanR) (j i : Nat) : Int := slotI (sAt P.l j) (gAt P.l j) (P.l : Int) (i : Int)
theorem rslot_any (i : Nat) (h : RgIs w kb q a P B m j c) (hi : i < P.l) : Calls Tryz.prog 128 #[.pointer (some ⟨kb, 0, none⟩), .int .i64 (i : Int)] w fun e w' => e = .returned (.int .i64 (slotJ P j i)) ∧ Gr [] w w' := by
  have c1 := h.c1
  have c5 := h.c5
  have c6 := h.c6
  have c7 := h.c7
  have HS := Lib.hid (fun W => slot_yes (sAt P.l j) (gAt P.l j) (j : Int) (P.l : Int) (i : Int) W (at_right P.l j h.ok.l1 h.ok.l2) (by omega) (by omega))
  obtain ⟨z, hz⟩ : ∃ z, z = slotJ P j i := ⟨_, rfl⟩
  rw [show slotI (sAt P.l j) (gAt P.l j) (P.l : Int) (i : Int) = z from hz.symm] at HS
  rw [← hz]
  clear h hz
  generalize sAt P.l j = sj at *
  generalize gAt P.l j = gj at *
  have k1 := kp_cell (a := ⟨kb, 1, none⟩) c1
  have k5 := kp_cell (a := ⟨kb, 5, none⟩) c5
  have k6 := kp_cell (a := ⟨kb, 6, none⟩) c6
  have k7 := kp_cell (a := ⟨kb, 7, none⟩) c7
  have hne := kp_ne w
  clear c1 c5 c6 c7
  go_enter Tryz.func128, Tryz.ntmps128
  go_wp2_with fail
  refine wp_region_kp (by kernel_rfl) (by kernel_rfl) ?_
  repeat (go_big_quiet_step ((rename_i x; exact kp_call x (HS.out _))))
  with_reducible refine wpQuiet_nil ?_
  rintro _ ⟨y, rfl⟩
  have HG := Lib.hid (Gr.ofBelow (cs := []) y.h)
  clear k1 k5 k6 k7 hne
  generalize y.w = w2 at *
  go_wp2_with fail
  go_ret
  exact ⟨rfl, HG.out⟩
end
end Go.Proofs.YtjbhallhmnahbaaGreat
