/-
  PjAp: GapC, GapF, GapG, RgA, LnD, LnG, LnH.
-/
import Derived.Test.YtjbhallhmnahbaaGreatPjAo
import Derived.Test.YtjbhallhmnahbaaGreatPjAa
import Derived.Test.YtjbhallhmnahbaaGreatPjAi
import Derived.Test.YtjbhallhmnahbaaGreatPjAb
import Derived.Test.YtjbhallhmnahbaaGreatPjAm
import Derived.Deep.QuietTactic
import Derived.BigQuiet
import Derived.Deep.RegionHeld3

set_option linter.unusedVariables false

/-
  Contracts of the helpers of layer 6's statements.
-/
namespace Go.Proofs.YtjbhallhmnahbaaGreat
open Go.RowKit

/-! ### The state behind so many moves, in numbers -/
theorem div_next (j M : Nat) (_hM : 0 < M) (h : j % M + 1 < M) : (j + 1) / M = j / M ∧ (j + 1) % M = j % M + 1 := by
  have e : j + 1 = M * (j / M) + (j % M + 1) := by have := Nat.div_add_mod j M; omega
  constructor
  · conv => lhs; rw [e]
    rw [Nat.mul_add_div (by omega), Nat.div_eq_of_lt h, Nat.add_zero]
  · conv => lhs; rw [e]
    rw [Nat.mul_add_mod, Nat.mod_eq_of_lt h]
theorem div_wrap (j M : Nat) (_hM : 0 < M) (h : ¬ j % M + 1 < M) : (j + 1) / M = j / M + 1 ∧ (j + 1) % M = 0 := by
  have hl := Nat.mod_lt j (show 0 < M by omega)
  have e : j + 1 = M * (j / M + 1) := by have := Nat.div_add_mod j M; rw [Nat.mul_add]; omega
  constructor
  · conv => lhs; rw [e]
    rw [Nat.mul_div_cancel_left _ (by omega)]
  · conv => lhs; rw [e]
    rw [Nat.mul_mod_right]

/-- Start and Gap behind j moves from the first state. -/
def sAt (m j : Nat) : Int := ((j / (m + 1) % m : Nat) : Int)
def gAt (m j : Nat) : Int := (m : Int) - ((j % (m + 1) : Nat) : Int)
theorem at_right (m j : Nat) (h1 : 1 ≤ m) (h2 : m ≤ 1024) : rightS (sAt m j) (gAt m j) m := by
  unfold rightS sAt gAt
  have a := Nat.mod_lt (j / (m + 1)) (show 0 < m by omega)
  have b := Nat.mod_lt j (show 0 < m + 1 by omega)
  omega
theorem at_pos (m j : Nat) (_h1 : 1 ≤ m) (h : 0 < gAt m j) : sAt m (j + 1) = sAt m j ∧ gAt m (j + 1) = gAt m j - 1 := by
  unfold gAt at h
  obtain ⟨a, b⟩ := div_next j (m + 1) (by omega) (by omega)
  unfold sAt gAt
  rw [a, b]
  exact ⟨rfl, by omega⟩
theorem at_zero (m j : Nat) (h1 : 1 ≤ m) (h : gAt m j = 0) : sAt m (j + 1) = (sAt m j + 1) % m ∧ gAt m (j + 1) = m := by
  unfold gAt at h
  obtain ⟨a, b⟩ := div_wrap j (m + 1) (by omega) (by omega)
  unfold sAt gAt
  rw [a, b]
  constructor
  · have : (j / (m + 1) + 1) % m = (j / (m + 1) % m + 1) % m := by rw [Nat.mod_add_mod]
    rw [this]; rfl
  · simp

/-! ### A block that holds a state -/
def StB (w : World) (b : Nat) (s g m : Int) : Prop := w.heap[b]? = some (stC s g m)
section
variable {w w' : World} {b : Nat} {s g m : Int}
theorem StB.lt (h : StB w b s g m) : b < w.heap.size := (Array.getElem?_eq_some_iff.1 h).1
theorem StB.cells (h : StB w b s g m) : w.cell? ⟨b, 0, none⟩ = some (.int .i64 s) ∧ w.cell? ⟨b, 1, none⟩ = some (.int .i64 g) ∧ w.cell? ⟨b, 2, none⟩ = some (.int .u32 m) :=
  ⟨cell_of_row w b 0 _ _ (0, 0) h, cell_of_row w b 1 _ _ (0, 0) h, cell_of_row w b 2 _ _ (0, 0) h⟩
theorem StB.frozen (h : StB w b s g m) : w.frozen? ⟨b, 0, none⟩ = false ∧ w.frozen? ⟨b, 1, none⟩ = false ∧ w.frozen? ⟨b, 2, none⟩ = false :=
  ⟨frozen_of_row w b 0 _ _ h, frozen_of_row w b 1 _ _ h, frozen_of_row w b 2 _ _ h⟩
theorem StB.below (h : StB w b s g m) (hb : Below w.heap.size w w') : StB w' b s g m := (hb.block b h.lt).trans h
theorem StB.new (w : World) (s g m : Int) : StB (w.alloc (stC s g m)) w.heap.size s g m := heap_alloc_new w _
theorem StB.alloc (h : StB w b s g m) (o : Obj) : StB (w.alloc o) b s g m := (Below.heap_alloc w o b h.lt).trans h
theorem StB.far (h : StB w b s g m) {a : Addr} (ha : b ≠ a.block) (u : Value) : StB (w.setCell a u) b s g m := (Below.heap_setCell w a u b ha).trans h
theorem StB.drew (h : StB w b s g m) : StB w.drew b s g m := h
theorem StB.drewN (h : StB w b s g m) (n : Nat) : StB (w.drewN n) b s g m := h
theorem StB.set (h : StB w b s g m) (s' g' m' : Int) : StB (((w.setCell ⟨b, 0, none⟩ (.int .i64 s')).setCell ⟨b, 1, none⟩ (.int .i64 g')).setCell ⟨b, 2, none⟩ (.int .u32 m')) b s' g' m' := by
  have h1 := heap_setCell_same w b 0 _ _ (.int .i64 s') h
  have h2 := heap_setCell_same _ b 1 _ _ (.int .i64 g') h1
  exact heap_setCell_same _ b 2 _ _ (.int .u32 m') h2
end

end Go.Proofs.YtjbhallhmnahbaaGreat

/-
  Contracts of Pack and Unpack.
-/
namespace Go.Proofs.YtjbhallhmnahbaaGreat
open Go.RowKit

/-- A state as a word. -/
def pkI (s g m : Int) : Int := m * 4294967296 + g % 65536 * 65536 + s % 65536
theorem pkI_b (s g m : Int) (hm : 0 ≤ m ∧ m ≤ 4294967295) : 0 ≤ pkI s g m ∧ pkI s g m < 18446744073709551616 := by unfold pkI; omega
theorem pk_a (S : Nat) : withN 0 0 16 S = S % 65536 := by
  unfold withN
  rw [if_pos (by unfold okF; omega)]
  show (0 / 2 ^ (0 + 16)) * 2 ^ (0 + 16) + (S % 2 ^ 16) * 2 ^ 0 + 0 % 2 ^ 0 = _
  omega
theorem pk_b (x G : Nat) (hx : x < 65536) : withN x 16 16 G = G % 65536 * 65536 + x := by
  unfold withN
  rw [if_pos (by unfold okF; omega)]
  show (x / 2 ^ (16 + 16)) * 2 ^ (16 + 16) + (G % 2 ^ 16) * 2 ^ 16 + x % 2 ^ 16 = _
  omega
theorem pk_c (x M : Nat) (hx : x < 4294967296) (hM : M < 4294967296) : withN x 32 32 M = M * 4294967296 + x := by
  unfold withN
  rw [if_pos (by unfold okF; omega)]
  show (x / 2 ^ (32 + 32)) * 2 ^ (32 + 32) + (M % 2 ^ 32) * 2 ^ 32 + x % 2 ^ 32 = _
  omega
theorem f_a (n : Nat) : fieldN n 0 16 = n % 65536 := by
  unfold fieldN
  rw [if_pos (by unfold okF; omega)]
  show n / 2 ^ 0 % 2 ^ 16 = _
  omega
theorem f_b (n : Nat) : fieldN n 16 16 = n / 65536 % 65536 := by
  unfold fieldN
  rw [if_pos (by unfold okF; omega)]
  show n / 2 ^ 16 % 2 ^ 16 = _
  omega
theorem f_c (n : Nat) (hn : n < 18446744073709551616) : fieldN n 32 32 = n / 4294967296 := by
  unfold fieldN
  rw [if_pos (by unfold okF; omega)]
  show n / 2 ^ 32 % 2 ^ 32 = _
  omega
/-- An int, made a word. -/
theorem u64_of (x : Int) : ∃ n : Nat, IntKind.u64.wrap x = (n : Int) ∧ n < 18446744073709551616 ∧ ((n % 65536 : Nat) : Int) = x % 65536 := by
  refine ⟨(x % 18446744073709551616).toNat, ?_, by omega, by omega⟩
  rw [IntKind.wrap_u64]; omega

set_option maxHeartbeats 800000 in
theorem pack_any (s g m : Int) (w : World) (hm : 0 ≤ m ∧ m ≤ 4294967295) :
    Calls Tryz.prog 96 #[.agg #[.int .i64 s, .int .i64 g, .int .u32 m]] w fun e w' => e = .returned (.int .u64 (pkI s g m)) ∧ w.alloc (stC s g m) = w' := by
  obtain ⟨S, hS, hS1, hS2⟩ := u64_of s
  obtain ⟨G, hG, hG1, hG2⟩ := u64_of g
  obtain ⟨M, rfl⟩ := Int.eq_ofNat_of_zero_le hm.1
  have hM : M < 4294967296 := by omega
  obtain ⟨x, hx, hxb⟩ : ∃ x : Nat, withN 0 0 16 S = x ∧ x = S % 65536 := ⟨_, pk_a S, rfl⟩
  obtain ⟨y, hy, hyb⟩ : ∃ y : Nat, withN x 16 16 G = y ∧ y = G % 65536 * 65536 + x := ⟨_, pk_b x G (by omega), rfl⟩
  obtain ⟨z, hz, hzb⟩ : ∃ z : Nat, withN y 32 32 M = z ∧ z = M * 4294967296 + y := ⟨_, pk_c y M (by omega) hM, rfl⟩
  have hfin : (z : Int) = pkI s g M := by unfold pkI; omega
  have hb1 : x < 18446744073709551616 := by omega
  have hb2 : y < 18446744073709551616 := by omega
  clear hxb hyb hzb
  have p1 := Lib.hid hx
  have p2 := Lib.hid hy
  have p3 := Lib.hid hz
  have HF := Lib.hid hfin
  clear hx hy hz
  clear hfin hS2 hG2
  go_enter Tryz.func96, Tryz.ntmps96
  go_wp2_with fail
  refine (with_any 0 _ _ S _ (by omega) (by omega) (by omega)).mono ?_
  rintro e w1 ⟨rfl, rfl⟩
  rw [p1.out]
  go_wp2_with fail
  refine (with_any x _ _ G _ hb1 (by omega) (by omega)).mono ?_
  rintro e w1 ⟨rfl, rfl⟩
  rw [p2.out]
  go_wp2_with fail
  refine (with_any y _ _ M _ hb2 (by omega) (by omega)).mono ?_
  rintro e w1 ⟨rfl, rfl⟩
  rw [p3.out]
  go_wp2_with fail
  go_ret
  exact ⟨by rw [← HF.out] <;> rfl, rfl⟩

def unS (n : Nat) : Int := ((n % 65536 : Nat) : Int)
def unG (n : Nat) : Int := ((n / 65536 % 65536 : Nat) : Int)
def unM (n : Nat) : Int := ((n / 4294967296 : Nat) : Int)
set_option maxHeartbeats 800000 in
theorem unpack_any (n : Nat) (w : World) (hn : n < 18446744073709551616) :
    Calls Tryz.prog 109 #[.int .u64 n] w fun e w' => e = .returned (.agg #[.int .i64 (unS n), .int .i64 (unG n), .int .u32 (unM n)]) ∧ Below w.heap.size w w' := by
  have e1 : ((fieldN n 0 16 : Nat) : Int) = unS n := by rw [f_a]; rfl
  have e2 : ((fieldN n 16 16 : Nat) : Int) = unG n := by rw [f_b]; rfl
  have e3 : ((fieldN n 32 32 : Nat) : Int) = unM n := by rw [f_c n hn]; rfl
  have b1 : 0 ≤ unS n ∧ unS n ≤ 65535 := by unfold unS; omega
  have b2 : 0 ≤ unG n ∧ unG n ≤ 65535 := by unfold unG; omega
  have b3 : 0 ≤ unM n ∧ unM n ≤ 4294967295 := by unfold unM; omega
  go_enter Tryz.func109, Tryz.ntmps109
  go_wp2_with fail
  refine (field_any n _ _ _ hn (by omega) (by omega)).mono ?_
  rintro e w1 ⟨rfl, rfl⟩
  rw [e1]
  go_wp2_with fail
  refine (field_any n _ _ _ hn (by omega) (by omega)).mono ?_
  rintro e w1 ⟨rfl, rfl⟩
  rw [e2]
  go_wp2_with fail
  refine (field_any n _ _ _ hn (by omega) (by omega)).mono ?_
  rintro e w1 ⟨rfl, rfl⟩
  rw [e3]
  go_wp2_with fail
  exact bodyPost_ret (v := .agg #[.int .i64 (unS n), .int .i64 (unG n), .int .u32 (unM n)]) (by simp [results, Tryz.results109, go_sem]) rfl ⟨rfl, by go_grown⟩

end Go.Proofs.YtjbhallhmnahbaaGreat

/-
  The walk of GapPacks.
-/
namespace Go.Proofs.YtjbhallhmnahbaaGreat
open Go.RowKit

theorem pack_bel (s g m : Int) (w : World) (hm : 0 ≤ m ∧ m ≤ 4294967295) :
    Calls Tryz.prog 96 #[.agg #[.int .i64 s, .int .i64 g, .int .u32 m]] w fun e w' => e = .returned (.int .u64 (pkI s g m)) ∧ Below w.heap.size w w' :=
  (pack_any s g m w hm).mono fun e w' ⟨he, hw⟩ => ⟨he, hw ▸ below_new (Below.refl _ _) _⟩
theorem unpack_pk (s g m : Int) (w : World) (hm : 0 ≤ m ∧ m ≤ 4294967295) (hs : 0 ≤ s ∧ s ≤ 65535) (hg : 0 ≤ g ∧ g ≤ 65535) :
    Calls Tryz.prog 109 #[.int .u64 (pkI s g m)] w fun e w' => e = .returned (.agg #[.int .i64 s, .int .i64 g, .int .u32 m]) ∧ Below w.heap.size w w' := by
  obtain ⟨n, hn⟩ := Int.eq_ofNat_of_zero_le (pkI_b s g m hm).1
  have hl := (pkI_b s g m hm).2
  rw [hn] at hl
  have hn' := hn
  unfold pkI at hn'
  have e1 : unS n = s := by unfold unS; omega
  have e2 : unG n = g := by unfold unG; omega
  have e3 : unM n = m := by unfold unM; omega
  rw [hn, ← e1, ← e2, ← e3]
  exact unpack_any n w (by omega)
end Go.Proofs.YtjbhallhmnahbaaGreat

/-
  Layer 7: a region in memory; Bank, Check, register, find, slot, State, Since.
-/
namespace Go.Proofs.YtjbhallhmnahbaaGreat
open Go.RowKit
set_option linter.unusedVariables false

structure PlanR where
  a : Int
  l : Nat
  s : Int
  psi : Int
def bankR (P : PlanR) : PlanZ := ⟨P.a, (P.l : Int) + 2, P.s⟩
structure OkR (P : PlanR) : Prop where
  l1 : 1 ≤ P.l
  l2 : P.l ≤ 1024
  p1 : 1 ≤ P.psi
  p2 : P.psi ≤ 65535
  ok : okZ (bankR P) = true
def planRV (P : PlanR) : Value := .agg #[.int .i64 P.a, .int .i64 (P.l : Int), .int .i64 P.s, .int .i64 P.psi]
def rgRow (P : PlanR) (q : BkA) (j c : Nat) : Array Value := #[.int .i64 P.a, .int .i64 (P.l : Int), .int .i64 P.s, .int .i64 P.psi, .pointer (some ⟨q.b, 0, none⟩), .int .i64 (sAt P.l j), .int .i64 (gAt P.l j), .int .u32 (j : Int), .int .i64 (c : Int)]
/-- A region in memory, behind j moves, c writes since the last. -/
structure RgIs (w : World) (kb : Nat) (q : BkA) (a : DevA) (P : PlanR) (B : BkS) (m j c : Nat) : Prop where
  head : Holds w kb (rgRow P q j c) 182
  bk : BkIs w q a (bankR P) B m
  ok : OkR P
  kq : kb ∉ q.all
  ka : kb ∉ a.all
section
variable {w w' : World} {kb : Nat} {q : BkA} {a : DevA} {P : PlanR} {B : BkS} {m j c : Nat}
theorem RgIs.gr {bs : List Nat} (h : RgIs w kb q a P B m j c) (g : Gr bs w w') (hk : kb ∉ bs) (hn : ∀ b ∈ q.all, b ∉ bs) : RgIs w' kb q a P B m j c := ⟨h.head.gr g hk, h.bk.gr g hn, h.ok, h.kq, h.ka⟩
theorem RgIs.gr0 (h : RgIs w kb q a P B m j c) (g : Gr [] w w') : RgIs w' kb q a P B m j c := h.gr g (by simp) (by simp)
theorem RgIs.moreN (h : RgIs w kb q a P B m j c) {m' : Nat} (hm : m ≤ m') : RgIs w kb q a P B m' j c := ⟨h.head, h.bk.moreN _ hm, h.ok, h.kq, h.ka⟩
/-- The bank has moved. -/
theorem RgIs.bank {B' : BkS} {m' : Nat} (h : RgIs w kb q a P B m j c) (g : Gr (q.all ++ a.all) w w') (k : BkIs w' q a (bankR P) B' m') : RgIs w' kb q a P B' m' j c :=
  ⟨h.head.gr g (by simp only [List.mem_append, not_or]; exact ⟨h.kq, h.ka⟩), k, h.ok, h.kq, h.ka⟩
theorem RgIs.c0 (h : RgIs w kb q a P B m j c) : w.cell? ⟨kb, 0, none⟩ = some (.int .i64 P.a) := h.head.cell 0
theorem RgIs.c1 (h : RgIs w kb q a P B m j c) : w.cell? ⟨kb, 1, none⟩ = some (.int .i64 (P.l : Int)) := h.head.cell 1
theorem RgIs.c2 (h : RgIs w kb q a P B m j c) : w.cell? ⟨kb, 2, none⟩ = some (.int .i64 P.s) := h.head.cell 2
theorem RgIs.c3 (h : RgIs w kb q a P B m j c) : w.cell? ⟨kb, 3, none⟩ = some (.int .i64 P.psi) := h.head.cell 3
theorem RgIs.c4 (h : RgIs w kb q a P B m j c) : w.cell? ⟨kb, 4, none⟩ = some (.pointer (some ⟨q.b, 0, none⟩)) := h.head.cell 4
theorem RgIs.c5 (h : RgIs w kb q a P B m j c) : w.cell? ⟨kb, 5, none⟩ = some (.int .i64 (sAt P.l j)) := h.head.cell 5
theorem RgIs.c6 (h : RgIs w kb q a P B m j c) : w.cell? ⟨kb, 6, none⟩ = some (.int .i64 (gAt P.l j)) := h.head.cell 6
theorem RgIs.c7 (h : RgIs w kb q a P B m j c) : w.cell? ⟨kb, 7, none⟩ = some (.int .u32 (j : Int)) := h.head.cell 7
theorem RgIs.c8 (h : RgIs w kb q a P B m j c) : w.cell? ⟨kb, 8, none⟩ = some (.int .i64 (c : Int)) := h.head.cell 8
theorem bankf_any (hP : OkR P) (w : World) : Calls Tryz.prog 84 #[planRV P] w fun e w' => e = .returned (planV (bankR P)) ∧ Gr [] w w' := by
  have hl := hP.l2
  have HG := Lib.hid (((Gr.refl [] w).alloc (Obj.cells #[.int .i64 P.a, .int .i64 (P.l : Int), .int .i64 P.s, .int .i64 P.psi] 107)).alloc (Obj.cells #[.int .i64 0, .int .i64 0, .int .i64 0] 158))
  obtain ⟨x, hx⟩ : ∃ x : Int, (P.l : Int) + 2 = x := ⟨_, rfl⟩
  have a1 : IntKind.i64.wrap x = x := IntWalk.i64_in _ (by omega)
  unfold planRV planV bankR
  rw [hx]
  clear hP hl
  go_enter Tryz.func84, Tryz.ntmps84
  go_wp2_with fail
  exact bodyPost_ret (v := .agg #[.int .i64 P.a, .int .i64 x, .int .i64 P.s]) (by simp [results, Tryz.results84, go_sem]) rfl ⟨rfl, ((Gr.refl [] w).alloc _).alloc _⟩
theorem reg_any (hP : OkR P) (w : World) : Calls Tryz.prog 94 #[planRV P] w fun e w' => e = .returned (.int .i64 ((P.l : Int) + 1)) ∧ Gr [] w w' := by
  have hl := hP.l2
  have HG := Lib.hid ((Gr.refl [] w).alloc (Obj.cells #[.int .i64 P.a, .int .i64 (P.l : Int), .int .i64 P.s, .int .i64 P.psi] 107))
  obtain ⟨x, hx⟩ : ∃ x : Int, (P.l : Int) + 1 = x := ⟨_, rfl⟩
  have a1 : IntKind.i64.wrap x = x := IntWalk.i64_in _ (by omega)
  unfold planRV
  rw [hx]
  clear hP hl
  go_enter Tryz.func94, Tryz.ntmps94
  go_wp2_with fail
  go_ret
  exact ⟨rfl, HG.out⟩
theorem rfind_in (i : Nat) (h : RgIs w kb q a P B m j c) (hi : i < P.l) : Calls Tryz.prog 127 #[.pointer (some ⟨kb, 0, none⟩), .int .i64 (i : Int)] w fun e w' => e = .returned (.int .i64 0) ∧ w' = w := by
  have c1 := h.c1
  have ik : ¬ ((i : Int) < 0) := by omega
  have ik2 : ¬ ((P.l : Int) ≤ (i : Int)) := by omega
  clear h
  go_enter Tryz.func127, Tryz.ntmps127
  go_wp2_with fail
  go_ret
  exact ⟨rfl, rfl⟩
def slotJ (P : PlanR) (j i : Nat) : Int := slotI (sAt P.l j) (gAt P.l j) (P.l : Int) (i : Int)
theorem rslot_any (i : Nat) (h : RgIs w kb q a P B m j c) (hi : i < P.l) : Calls Tryz.prog 128 #[.pointer (some ⟨kb, 0, none⟩), .int .i64 (i : Int)] w fun e w' => e = .returned (.int .i64 (slotJ P j i)) ∧ Gr [] w w' := by
  have c1 := h.c1
  have c5 := h.c5
  have c6 := h.c6
  have c7 := h.c7
  have HS := Lib.hid (fun W => slot_yes (sAt P.l j) (gAt P.l j) (j : Int) (P.l : Int) (i : Int) W (at_right P.l j h.ok.l1 h.ok.l2) (by omega) (by omega))
  obtain ⟨z, hz⟩ : ∃ z, z = slotJ P j i := ⟨_, rfl⟩
  rw [show slotI (sAt P.l j) (gAt P.l j) (P.l : Int) (i : Int) = z from hz.symm] at HS
  rw [← hz]
  clear h hz
  generalize sAt P.l j = sj at *
  generalize gAt P.l j = gj at *
  have k1 := kp_cell (a := ⟨kb, 1, none⟩) c1
  have k5 := kp_cell (a := ⟨kb, 5, none⟩) c5
  have k6 := kp_cell (a := ⟨kb, 6, none⟩) c6
  have k7 := kp_cell (a := ⟨kb, 7, none⟩) c7
  have hne := kp_ne w
  clear c1 c5 c6 c7
  go_enter Tryz.func128, Tryz.ntmps128
  go_wp2_with fail
  refine wp_region_kp (by kernel_rfl) (by kernel_rfl) ?_
  repeat (go_big_quiet_step ((rename_i x; exact kp_call x (HS.out _))))
  with_reducible refine wpQuiet_nil ?_
  rintro _ ⟨y, rfl⟩
  have HG := Lib.hid (Gr.ofBelow (cs := []) y.h)
  clear k1 k5 k6 k7 hne
  generalize y.w = w2 at *
  go_wp2_with fail
  go_ret
  exact ⟨rfl, HG.out⟩
end
end Go.Proofs.YtjbhallhmnahbaaGreat

/-
  Layer 4: what a Put leaves on a device that is on, with no fuse, with nothing pending; wakes.
-/
namespace Go.Proofs.YtjbhallhmnahbaaGreat
open Go.RowKit

structure Calm (D : DevS) : Prop where
  off : D.off = false
  fuse : D.fuse = 0
  buf : ∀ z, D.buf z = none
/-- i words from B on are stored. -/
structure Sto (D D' : DevS) (B i : Nat) (f : Nat → Nat) : Prop where
  n : D'.n = D.n
  off : D'.off = false
  fuse : D'.fuse = 0
  bad : D'.bad = D.bad
  med : D'.med = D.med
  cnt : D'.cnt = D.cnt + i
  buf : ∀ z : Int, D'.buf z = if (B : Int) ≤ z ∧ z < (B : Int) + i then some (f (z - B).toNat, false) else none
/-- m words from B on, in line l, last. -/
structure PutS (D D' : DevS) (l B m : Nat) (f : Nat → Nat) : Prop where
  n : D'.n = D.n
  calm : Calm D'
  bad : D'.bad = D.bad
  cnt : D'.cnt = D.cnt + m + 2
  med : ∀ x, D'.med x = if B ≤ x ∧ x < B + m ∧ D.bad l = false then f (x - B) else D.med x
theorem Sto.start {D : DevS} (h : Calm D) (B : Nat) (f : Nat → Nat) : Sto D D B 0 f :=
  ⟨rfl, h.off, h.fuse, rfl, rfl, rfl, fun z => by rw [if_neg (by omega)]; exact h.buf z⟩
theorem stos_live (D : DevS) (l k m : Nat) (f : Nat → Nat) (hl : l < D.n) (hk : k + m ≤ 8) : ∀ (r i : Nat) (D' : DevS), i + r = m → Sto D D' (8 * l + k) i f → ∃ E, stos l k f r i D' = (0, E) ∧ PutS D E l (8 * l + k) m f
  | 0, i, D', hi, h => by
    obtain rfl : i = m := by omega
    have h1 := live_e (D := D') (t := isLine D' (l : Int)) h.off h.fuse (by unfold isLine; rw [decide_eq_true_eq, h.n]; omega)
    obtain ⟨D2, hD2⟩ : ∃ D2, D2 = flushF (l : Int) D' := ⟨_, rfl⟩
    have o2 : D2.off = false := by rw [hD2]; exact h.off
    have u2 : D2.fuse = 0 := by rw [hD2]; exact h.fuse
    have h2 := live_e (D := D2) (t := true) o2 u2 rfl
    have b2 : ∀ z : Int, D2.buf z = if ((8 * l + k : Nat) : Int) ≤ z ∧ z < ((8 * l + k : Nat) : Int) + i then some (f (z - ((8 * l + k : Nat) : Int)).toNat, true) else none := fun z => by
      rw [hD2]
      show flF D'.buf ((l : Int).toNat) 8 z = _
      rw [Int.toNat_natCast]
      unfold flF
      rw [h.buf z]
      by_cases c : ((8 * l + k : Nat) : Int) ≤ z ∧ z < ((8 * l + k : Nat) : Int) + i
      · rw [if_pos c, if_pos c, if_pos (by omega)]; rfl
      · rw [if_neg c, if_neg c]; split <;> rfl
    have s2 : ∀ x : Nat, fluS D2 x = decide (8 * l + k ≤ x ∧ x < 8 * l + k + i) := fun x => by
      unfold fluS
      rw [b2]
      by_cases c : 8 * l + k ≤ x ∧ x < 8 * l + k + i
      · rw [if_pos (by omega), decide_eq_true c]; rfl
      · rw [if_neg (by omega), decide_eq_false c]; rfl
    refine ⟨fenceF D2, ?_, ?_⟩
    · unfold stos finS
      rw [h1.1, if_pos rfl, h1.2, ← hD2, h2.1, h2.2]
    · refine ⟨by rw [hD2]; exact h.n, ⟨o2, u2, fun z => ?_⟩, by rw [hD2]; exact h.bad, by rw [hD2]; show D'.cnt + 1 + 1 = _; rw [h.cnt], fun x => ?_⟩
      · show perBuf D2 (fluS D2) z = none
        unfold perBuf
        rw [s2, b2]
        by_cases c : ((8 * l + k : Nat) : Int) ≤ z ∧ z < ((8 * l + k : Nat) : Int) + i
        · rw [if_pos ⟨by omega, by rw [decide_eq_true_eq]; omega⟩]
        · rw [if_neg c]; split <;> rfl
      · show perMed D2 (fluS D2) x = _
        unfold perMed
        have hb : D2.bad = D.bad := by rw [hD2]; exact h.bad
        have hm : D2.med = D.med := by rw [hD2]; exact h.med
        rw [s2, b2, hb, hm]
        by_cases c : 8 * l + k ≤ x ∧ x < 8 * l + k + i
        · rw [decide_eq_true c, if_pos (show ((8 * l + k : Nat) : Int) ≤ (x : Int) ∧ (x : Int) < ((8 * l + k : Nat) : Int) + i by omega), show x / 8 = l by omega]
          cases hbl : D.bad l with
          | true => rw [if_neg (by simp), if_neg (by simp)]
          | false =>
            rw [if_pos ⟨rfl, rfl⟩, if_pos ⟨c.1, c.2, rfl⟩]
            show f ((x : Int) - ((8 * l + k : Nat) : Int)).toNat = _
            congr 1
            omega
        · rw [decide_eq_false c, if_neg (by simp), if_neg (fun e => c ⟨e.1, e.2.1⟩)]
  | r + 1, i, D', hi, h => by
    have h1 := live_e (D := D') (t := isWord D' ((8 * l + k + i : Nat) : Int)) h.off h.fuse (by unfold isWord; rw [decide_eq_true_eq, h.n]; omega)
    have hs : Sto D (storeF ((8 * l + k + i : Nat) : Int) (f i) D') (8 * l + k) (i + 1) f := by
      refine ⟨h.n, h.off, h.fuse, h.bad, h.med, by show D'.cnt + 1 = _; rw [h.cnt]; omega, fun z => ?_⟩
      show updZ D'.buf ((8 * l + k + i : Nat) : Int) (some (f i, false)) z = _
      unfold updZ
      by_cases e : z = ((8 * l + k + i : Nat) : Int)
      · subst e
        rw [if_pos rfl, if_pos (by omega)]
        congr 3
        omega
      · rw [if_neg e, h.buf z]
        by_cases c : ((8 * l + k : Nat) : Int) ≤ z ∧ z < ((8 * l + k : Nat) : Int) + i
        · rw [if_pos c, if_pos (by omega)]
        · rw [if_neg c, if_neg (by omega)]
    obtain ⟨E, e1, e2⟩ := stos_live D l k m f hl hk r (i + 1) _ (by omega) hs
    refine ⟨E, ?_, e2⟩
    unfold stos
    rw [h1.1, if_pos rfl, h1.2]
    exact e1
theorem put_calm {D : DevS} {l : Nat} {s : ByteArray} (h : Calm D) (hl : l < D.n) (hs : s.size = 64) : ∃ E, putE D (l : Int) s = (0, E) ∧ PutS D E l (8 * l) 8 (wdL s.data.toList) := by
  obtain ⟨E, e1, e2⟩ := stos_live D l 0 8 (wdL s.data.toList) hl (by omega) 8 0 D (by omega) (.start h _ _)
  refine ⟨E, ?_, e2⟩
  unfold putE
  rw [if_neg (by simp [hs]), if_pos (by unfold isLine; rw [decide_eq_true_eq]; omega), Int.toNat_natCast]
  exact e1
theorem putword_calm {D : DevS} {l k v : Nat} (h : Calm D) (hl : l < D.n) (hk : k < 8) : ∃ E, pwE D (l : Int) (k : Int) v = (0, E) ∧ PutS D E l (8 * l + k) 1 (fun _ => v) := by
  obtain ⟨E, e1, e2⟩ := stos_live D l k 1 (fun _ => v) hl (by omega) 1 0 D (by omega) (.start h _ _)
  refine ⟨E, ?_, e2⟩
  unfold pwE
  rw [if_neg (by omega), if_pos (by unfold isLine; rw [decide_eq_true_eq]; omega), Int.toNat_natCast, Int.toNat_natCast]
  exact e1
theorem calm_load {D : DevS} (h : Calm D) (i : Nat) : loadV D i = D.med i := by unfold loadV; rw [h.buf]
theorem getT_of {D : DevS} {l : Nat} {s : ByteArray} (h : Calm D) (hs : s.size = 64) (hm : ∀ k, k < 8 → D.med (8 * l + k) = wdL s.data.toList k) : (⟨(getT D l).toArray⟩ : ByteArray) = s := by
  have e : getT D l = s.data.toList := by
    unfold getT
    rw [calm_load h, calm_load h, calm_load h, calm_load h, calm_load h, calm_load h, calm_load h, calm_load h]
    have := hm 0 (by omega)
    rw [Nat.add_zero] at this
    rw [this, hm 1 (by omega), hm 2 (by omega), hm 3 (by omega), hm 4 (by omega), hm 5 (by omega), hm 6 (by omega), hm 7 (by omega)]
    exact cat_wdL 8 s.data.toList hs
  rw [e]
theorem took_of {D : DevS} {l : Nat} {s : ByteArray} (hl : l < D.n) (hs : s.size = 64) (hm : ∀ k, k < 8 → D.med (8 * l + k) = wdL s.data.toList k) : tookB D (l : Int) s = true := by
  unfold tookB
  rw [decide_eq_true hs, show isLine D (l : Int) = true by unfold isLine; rw [decide_eq_true_eq]; omega, Int.toNat_natCast, Bool.true_and, Bool.true_and, List.all_eq_true]
  intro k hk
  rw [List.mem_range] at hk
  simpa using hm k hk
/-! ### wakes -/
end Go.Proofs.YtjbhallhmnahbaaGreat

/-
  Layer 4: Mixed, the reference's Mixed.
-/
namespace Go.Proofs.YtjbhallhmnahbaaGreat
open Go.RowKit
set_option linter.unusedVariables false

def mixB (was is got : ByteArray) : Bool := decide (was.size = 64 ∧ is.size = 64 ∧ got.size = 64) && (List.range 8).all fun k => wdL got.data.toList k == wdL was.data.toList k || wdL got.data.toList k == wdL is.data.toList k
/-! ### The reference's -/
theorem ext8 (s : ByteArray) (q : Nat) : (s.extract q (q + 8)).data.toList = (s.data.toList.drop q).take 8 := by
  simp only [ByteArray.data_extract, Array.toList_extract, List.extract_eq_take_drop]
  rw [show q + 8 - q = 8 by omega]
theorem bs_beq_false {x y : ByteArray} (h : x ≠ y) : (x.toList == y.toList) = false := by
  rw [beq_eq_false_iff_ne]
  intro e
  apply h
  apply ByteArray.ext
  apply Array.ext'
  rw [ByteArray.toList_eq, ByteArray.toList_eq] at e
  exact e
end Go.Proofs.YtjbhallhmnahbaaGreat

/-
  LineMixes.
-/
namespace Go.Proofs.YtjbhallhmnahbaaGreat
open Go.RowKit
set_option linter.unusedVariables false

/-- G's first words are A's or B's. -/
def MixTo (A B G : ByteArray) (k : Nat) : Prop := G.size = 8 * k ∧ ∀ j, j < k → wdL G.data.toList j = wdL A.data.toList j ∨ wdL G.data.toList j = wdL B.data.toList j
theorem MixTo.next {A B G X : ByteArray} {k : Nat} (h : MixTo A B G k) (hX : X = A ∨ X = B) (hs : X.size = 64) (hk : k < 8) : MixTo A B (G ++ X.extract (8 * k) (8 * k + 8)) (k + 1) := by
  have hg : G.data.toList.length = 8 * k := h.1
  have hx : (X.extract (8 * k) (8 * k + 8)).data.toList = (X.data.toList.drop (8 * k)).take 8 := ext8 X (8 * k)
  have hxl : X.data.toList.length = 64 := hs
  have e : (G ++ X.extract (8 * k) (8 * k + 8)).data.toList = G.data.toList ++ (X.data.toList.drop (8 * k)).take 8 := by
    rw [ByteArray.data_append, Array.toList_append, hx]
  refine ⟨?_, fun j hj => ?_⟩
  · show (G ++ X.extract (8 * k) (8 * k + 8)).data.toList.length = _
    rw [e, List.length_append, hg, List.length_take, List.length_drop, hxl]
    omega
  · by_cases c : j = k
    · subst c
      have q : wdL (G ++ X.extract (8 * j) (8 * j + 8)).data.toList j = wdL X.data.toList j := by
        unfold wdL
        rw [e, show 8 * j = G.data.toList.length by omega, List.drop_left, List.take_take, Nat.min_self]
      rcases hX with rfl | rfl
      · exact .inl q
      · exact .inr q
    · have q : wdL (G ++ X.extract (8 * k) (8 * k + 8)).data.toList j = wdL G.data.toList j := by
        unfold wdL
        rw [e, List.drop_append_of_le_length (by omega), List.take_append_of_le_length (by rw [List.length_drop, hg]; omega)]
      rw [q]
      exact h.2 j (by omega)
theorem MixTo.all {A B G : ByteArray} (hA : A.size = 64) (hB : B.size = 64) (h : MixTo A B G 8) : mixB A B G = true := by
  unfold mixB
  rw [decide_eq_true ⟨hA, hB, h.1⟩, Bool.true_and, List.all_eq_true]
  intro j hj
  rw [List.mem_range] at hj
  rcases h.2 j hj with q | q <;> simp [q]
end Go.Proofs.YtjbhallhmnahbaaGreat
