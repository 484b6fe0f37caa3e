/-
  HkAm: GapF, GapG, RgA, LnD, LnG, LnH, LnI, SpAa, SpG, SpH.
-/
import Derived.Test.YtefmbchebobceaaGreatHkAl
import Derived.Test.YtefmbchebobceaaGreatHkAg
import Derived.Test.YtefmbchebobceaaGreatHkAa
import Derived.Test.YtefmbchebobceaaGreatHkAj
import Derived.Test.YtefmbchebobceaaGreatHkAk
import Derived.Deep.QuietTactic
import Derived.BigQuiet
import Derived.Deep.RegionHeld3

set_option linter.unusedVariables false

/-
  Contracts of Pack and Unpack.
-/
namespace Go.Proofs.YtefmbchebobceaaGreat
open Go.RowKit

def pkI (s g m : Int) : Int := m * 4294967296 + g % 65536 * 65536 + s % 65536
theorem pkI_b (s g m : Int) (hm : 0 ≤ m ∧ m ≤ 4294967295) : 0 ≤ pkI s g m ∧ pkI s g m < 18446744073709551616 := by unfold pkI; omega
theorem pk_a (S : Nat) : withN 0 0 16 S = S % 65536 := by
  unfold withN
  rw [if_pos (by unfold okF; omega)]
  show (0 / 2 ^ (0 + 16)) * 2 ^ (0 + 16) + (S % 2 ^ 16) * 2 ^ 0 + 0 % 2 ^ 0 = _
  omega
theorem pk_b (x G : Nat) (hx : x < 65536) : withN x 16 16 G = G % 65536 * 65536 + x := by
  unfold withN
  rw [if_pos (by unfold okF; omega)]
  show (x / 2 ^ (16 + 16)) * 2 ^ (16 + 16) + (G % 2 ^ 16) * 2 ^ 16 + x % 2 ^ 16 = _
  omega
theorem pk_c (x M : Nat) (hx : x < 4294967296) (hM : M < 4294967296) : withN x 32 32 M = M * 4294967296 + x := by
  unfold withN
  rw [if_pos (by unfold okF; omega)]
  show (x / 2 ^ (32 + 32)) * 2 ^ (32 + 32) + (M % 2 ^ 32) * 2 ^ 32 + x % 2 ^ 32 = _
  omega
theorem f_a (n : Nat) : fieldN n 0 16 = n % 65536 := by
  unfold fieldN
  rw [if_pos (by unfold okF; omega)]
  show n / 2 ^ 0 % 2 ^ 16 = _
  omega
theorem f_b (n : Nat) : fieldN n 16 16 = n / 65536 % 65536 := by
  unfold fieldN
  rw [if_pos (by unfold okF; omega)]
  show n / 2 ^ 16 % 2 ^ 16 = _
  omega
theorem f_c (n : Nat) (hn : n < 18446744073709551616) : fieldN n 32 32 = n / 4294967296 := by
  unfold fieldN
  rw [if_pos (by unfold okF; omega)]
  show n / 2 ^ 32 % 2 ^ 32 = _
  omega
theorem u64_of (x : Int) : ∃ n : Nat, IntKind.u64.wrap x = (n : Int) ∧ n < 18446744073709551616 ∧ ((n % 65536 : Nat) : Int) = x % 65536 := by
  refine ⟨(x % 18446744073709551616).toNat, ?_, by omega, by omega⟩
  rw [IntKind.wrap_u64]; omega

set_option maxHeartbeats 800000 in
theorem pack_any (s g m : Int) (w : World) (hm : 0 ≤ m ∧ m ≤ 4294967295) :
    Calls Tryz.prog 143 #[.agg #[.int .i64 s, .int .i64 g, .int .u32 m]] w fun e w' => e = .returned (.int .u64 (pkI s g m)) ∧ w.alloc (stC s g m) = w' := by
  obtain ⟨S, hS, hS1, hS2⟩ := u64_of s
  obtain ⟨G, hG, hG1, hG2⟩ := u64_of g
  obtain ⟨M, rfl⟩ := Int.eq_ofNat_of_zero_le hm.1
  have hM : M < 4294967296 := by omega
  obtain ⟨x, hx, hxb⟩ : ∃ x : Nat, withN 0 0 16 S = x ∧ x = S % 65536 := ⟨_, pk_a S, rfl⟩
  obtain ⟨y, hy, hyb⟩ : ∃ y : Nat, withN x 16 16 G = y ∧ y = G % 65536 * 65536 + x := ⟨_, pk_b x G (by omega), rfl⟩
  obtain ⟨z, hz, hzb⟩ : ∃ z : Nat, withN y 32 32 M = z ∧ z = M * 4294967296 + y := ⟨_, pk_c y M (by omega) hM, rfl⟩
  have hfin : (z : Int) = pkI s g M := by unfold pkI; omega
  have hb1 : x < 18446744073709551616 := by omega
  have hb2 : y < 18446744073709551616 := by omega
  clear hxb hyb hzb
  have p1 := Lib.hid hx
  have p2 := Lib.hid hy
  have p3 := Lib.hid hz
  have HF := Lib.hid hfin
  clear hx hy hz
  clear hfin hS2 hG2
  go_enter Tryz.func143, Tryz.ntmps143
  go_wp2_with fail
  refine (with_any 0 _ _ S _ (by omega) (by omega) (by omega)).mono ?_
  rintro e w1 ⟨rfl, rfl⟩
  rw [p1.out]
  go_wp2_with fail
  refine (with_any x _ _ G _ hb1 (by omega) (by omega)).mono ?_
  rintro e w1 ⟨rfl, rfl⟩
  rw [p2.out]
  go_wp2_with fail
  refine (with_any y _ _ M _ hb2 (by omega) (by omega)).mono ?_
  rintro e w1 ⟨rfl, rfl⟩
  rw [p3.out]
  go_wp2_with fail
  go_ret
  exact ⟨by rw [← HF.out] <;> rfl, rfl⟩

def unS (n : Nat) : Int := ((n % 65536 : Nat) : Int)
def unG (n : Nat) : Int := ((n / 65536 % 65536 : Nat) : Int)
def unM (n : Nat) : Int := ((n / 4294967296 : Nat) : Int)
set_option maxHeartbeats 800000 in
theorem unpack_any (n : Nat) (w : World) (hn : n < 18446744073709551616) :
    Calls Tryz.prog 147 #[.int .u64 n] w fun e w' => e = .returned (.agg #[.int .i64 (unS n), .int .i64 (unG n), .int .u32 (unM n)]) ∧ Below w.heap.size w w' := by
  have e1 : ((fieldN n 0 16 : Nat) : Int) = unS n := by rw [f_a]; rfl
  have e2 : ((fieldN n 16 16 : Nat) : Int) = unG n := by rw [f_b]; rfl
  have e3 : ((fieldN n 32 32 : Nat) : Int) = unM n := by rw [f_c n hn]; rfl
  have b1 : 0 ≤ unS n ∧ unS n ≤ 65535 := by unfold unS; omega
  have b2 : 0 ≤ unG n ∧ unG n ≤ 65535 := by unfold unG; omega
  have b3 : 0 ≤ unM n ∧ unM n ≤ 4294967295 := by unfold unM; omega
  go_enter Tryz.func147, Tryz.ntmps147
  go_wp2_with fail
  refine (field_any n _ _ _ hn (by omega) (by omega)).mono ?_
  rintro e w1 ⟨rfl, rfl⟩
  rw [e1]
  go_wp2_with fail
  refine (field_any n _ _ _ hn (by omega) (by omega)).mono ?_
  rintro e w1 ⟨rfl, rfl⟩
  rw [e2]
  go_wp2_with fail
  refine (field_any n _ _ _ hn (by omega) (by omega)).mono ?_
  rintro e w1 ⟨rfl, rfl⟩
  rw [e3]
  go_wp2_with fail
  exact bodyPost_ret (v := .agg #[.int .i64 (unS n), .int .i64 (unG n), .int .u32 (unM n)]) (by simp [results, Tryz.results147, go_sem]) rfl ⟨rfl, by go_grown⟩

end Go.Proofs.YtefmbchebobceaaGreat

/-
  The walk of GapPacks.
-/
namespace Go.Proofs.YtefmbchebobceaaGreat
open Go.RowKit

theorem pack_bel (s g m : Int) (w : World) (hm : 0 ≤ m ∧ m ≤ 4294967295) :
    Calls Tryz.prog 143 #[.agg #[.int .i64 s, .int .i64 g, .int .u32 m]] w fun e w' => e = .returned (.int .u64 (pkI s g m)) ∧ Below w.heap.size w w' :=
  (pack_any s g m w hm).mono fun e w' ⟨he, hw⟩ => ⟨he, hw ▸ below_new (Below.refl _ _) _⟩
theorem unpack_pk (s g m : Int) (w : World) (hm : 0 ≤ m ∧ m ≤ 4294967295) (hs : 0 ≤ s ∧ s ≤ 65535) (hg : 0 ≤ g ∧ g ≤ 65535) :
    Calls Tryz.prog 147 #[.int .u64 (pkI s g m)] w fun e w' => e = .returned (.agg #[.int .i64 s, .int .i64 g, .int .u32 m]) ∧ Below w.heap.size w w' := by
  obtain ⟨n, hn⟩ := Int.eq_ofNat_of_zero_le (pkI_b s g m hm).1
  have hl := (pkI_b s g m hm).2
  rw [hn] at hl
  have hn' := hn
  unfold pkI at hn'
  have e1 : unS n = s := by unfold unS; omega
  have e2 : unG n = g := by unfold unG; omega
  have e3 : unM n = m := by unfold unM; omega
  rw [hn, ← e1, ← e2, ← e3]
  exact unpack_any n w (by omega)
end Go.Proofs.YtefmbchebobceaaGreat

/-
  Layer 7: a region in memory; Bank, Check, register, find, slot, State, Since.
-/
namespace Go.Proofs.YtefmbchebobceaaGreat
open Go.RowKit
set_option linter.unusedVariables false

structure PlanR where
  a : Int
  l : Nat
  s : Int
  psi : Int
def bankR (P : PlanR) : PlanZ := ⟨P.a, (P.l : Int) + 2, P.s⟩
structure OkR (P : PlanR) : Prop where
  l1 : 1 ≤ P.l
  l2 : P.l ≤ 1024
  p1 : 1 ≤ P.psi
  p2 : P.psi ≤ 65535
  ok : okZ (bankR P) = true
def planRV (P : PlanR) : Value := .agg #[.int .i64 P.a, .int .i64 (P.l : Int), .int .i64 P.s, .int .i64 P.psi]
def stJ (P : PlanR) (j : Nat) : Value := .agg #[.int .i64 (sAt P.l j), .int .i64 (gAt P.l j), .int .u32 (j : Int)]
def rgRow (P : PlanR) (q : BkA) (j c : Nat) : Array Value := #[.int .i64 P.a, .int .i64 (P.l : Int), .int .i64 P.s, .int .i64 P.psi, .pointer (some ⟨q.b, 0, none⟩), .int .i64 (sAt P.l j), .int .i64 (gAt P.l j), .int .u32 (j : Int), .int .i64 (c : Int)]
structure RgIs (w : World) (kb : Nat) (q : BkA) (a : DevA) (P : PlanR) (B : BkS) (m j c : Nat) : Prop where
  head : Holds w kb (rgRow P q j c) 218
  bk : BkIs w q a (bankR P) B m
  ok : OkR P
  kq : kb ∉ q.all
  ka : kb ∉ a.all
section
variable {w w' : World} {kb : Nat} {q : BkA} {a : DevA} {P : PlanR} {B : BkS} {m j c : Nat}
theorem RgIs.gr {bs : List Nat} (h : RgIs w kb q a P B m j c) (g : Gr bs w w') (hk : kb ∉ bs) (hn : ∀ b ∈ q.all, b ∉ bs) : RgIs w' kb q a P B m j c := ⟨h.head.gr g hk, h.bk.gr g hn, h.ok, h.kq, h.ka⟩
theorem RgIs.gr0 (h : RgIs w kb q a P B m j c) (g : Gr [] w w') : RgIs w' kb q a P B m j c := h.gr g (by simp) (by simp)
theorem RgIs.moreN (h : RgIs w kb q a P B m j c) {m' : Nat} (hm : m ≤ m') : RgIs w kb q a P B m' j c := ⟨h.head, h.bk.moreN _ hm, h.ok, h.kq, h.ka⟩
theorem RgIs.bank {B' : BkS} {m' : Nat} (h : RgIs w kb q a P B m j c) (g : Gr (q.all ++ a.all) w w') (k : BkIs w' q a (bankR P) B' m') : RgIs w' kb q a P B' m' j c :=
  ⟨h.head.gr g (by simp only [List.mem_append, not_or]; exact ⟨h.kq, h.ka⟩), k, h.ok, h.kq, h.ka⟩
theorem RgIs.c0 (h : RgIs w kb q a P B m j c) : w.cell? ⟨kb, 0, none⟩ = some (.int .i64 P.a) := h.head.cell 0
theorem RgIs.c1 (h : RgIs w kb q a P B m j c) : w.cell? ⟨kb, 1, none⟩ = some (.int .i64 (P.l : Int)) := h.head.cell 1
theorem RgIs.c2 (h : RgIs w kb q a P B m j c) : w.cell? ⟨kb, 2, none⟩ = some (.int .i64 P.s) := h.head.cell 2
theorem RgIs.c3 (h : RgIs w kb q a P B m j c) : w.cell? ⟨kb, 3, none⟩ = some (.int .i64 P.psi) := h.head.cell 3
theorem RgIs.c4 (h : RgIs w kb q a P B m j c) : w.cell? ⟨kb, 4, none⟩ = some (.pointer (some ⟨q.b, 0, none⟩)) := h.head.cell 4
theorem RgIs.c5 (h : RgIs w kb q a P B m j c) : w.cell? ⟨kb, 5, none⟩ = some (.int .i64 (sAt P.l j)) := h.head.cell 5
theorem RgIs.c6 (h : RgIs w kb q a P B m j c) : w.cell? ⟨kb, 6, none⟩ = some (.int .i64 (gAt P.l j)) := h.head.cell 6
theorem RgIs.c7 (h : RgIs w kb q a P B m j c) : w.cell? ⟨kb, 7, none⟩ = some (.int .u32 (j : Int)) := h.head.cell 7
theorem RgIs.c8 (h : RgIs w kb q a P B m j c) : w.cell? ⟨kb, 8, none⟩ = some (.int .i64 (c : Int)) := h.head.cell 8
theorem bankf_any (hP : OkR P) (w : World) : Calls Tryz.prog 85 #[planRV P] w fun e w' => e = .returned (planV (bankR P)) ∧ Gr [] w w' := by
  have hl := hP.l2
  have HG := Lib.hid (((Gr.refl [] w).alloc (Obj.cells #[.int .i64 P.a, .int .i64 (P.l : Int), .int .i64 P.s, .int .i64 P.psi] 151)).alloc (Obj.cells #[.int .i64 0, .int .i64 0, .int .i64 0] 153))
  obtain ⟨x, hx⟩ : ∃ x : Int, (P.l : Int) + 2 = x := ⟨_, rfl⟩
  have a1 : IntKind.i64.wrap x = x := IntWalk.i64_in _ (by omega)
  unfold planRV planV bankR
  rw [hx]
  clear hP hl
  go_enter Tryz.func85, Tryz.ntmps85
  go_wp2_with fail
  exact bodyPost_ret (v := .agg #[.int .i64 P.a, .int .i64 x, .int .i64 P.s]) (by simp [results, Tryz.results85, go_sem]) rfl ⟨rfl, ((Gr.refl [] w).alloc _).alloc _⟩
theorem reg_any (hP : OkR P) (w : World) : Calls Tryz.prog 141 #[planRV P] w fun e w' => e = .returned (.int .i64 ((P.l : Int) + 1)) ∧ Gr [] w w' := by
  have hl := hP.l2
  have HG := Lib.hid ((Gr.refl [] w).alloc (Obj.cells #[.int .i64 P.a, .int .i64 (P.l : Int), .int .i64 P.s, .int .i64 P.psi] 151))
  obtain ⟨x, hx⟩ : ∃ x : Int, (P.l : Int) + 1 = x := ⟨_, rfl⟩
  have a1 : IntKind.i64.wrap x = x := IntWalk.i64_in _ (by omega)
  unfold planRV
  rw [hx]
  clear hP hl
  go_enter Tryz.func141, Tryz.ntmps141
  go_wp2_with fail
  go_ret
  exact ⟨rfl, HG.out⟩
theorem rfind_in (i : Nat) (h : RgIs w kb q a P B m j c) (hi : i < P.l) : Calls Tryz.prog 130 #[.pointer (some ⟨kb, 0, none⟩), .int .i64 (i : Int)] w fun e w' => e = .returned (.int .i64 0) ∧ w' = w := by
  have c1 := h.c1
  have ik : ¬ ((i : Int) < 0) := by omega
  have ik2 : ¬ ((P.l : Int) ≤ (i : Int)) := by omega
  clear h
  go_enter Tryz.func130, Tryz.ntmps130
  go_wp2_with fail
  go_ret
  exact ⟨rfl, rfl⟩
theorem rstate_any (h : RgIs w kb q a P B m j c) : Calls Tryz.prog 234 #[.pointer (some ⟨kb, 0, none⟩)] w fun e w' => e = .returned (stJ P j) ∧ Gr [] w w' := by
  have HG := Lib.hid ((Gr.refl [] w).alloc (Obj.cells #[.int .i64 0, .int .i64 0, .int .u32 0] 216))
  have c5 := (HG.out.cell0 h.head.lt).trans h.c5
  have c6 := (HG.out.cell0 h.head.lt).trans h.c6
  have c7 := (HG.out.cell0 h.head.lt).trans h.c7
  unfold stJ
  clear h
  go_enter Tryz.func234, Tryz.ntmps234
  go_wp2_with fail
  exact bodyPost_ret (v := .agg #[.int .i64 (sAt P.l j), .int .i64 (gAt P.l j), .int .u32 (j : Int)]) (by simp [results, Tryz.results234, go_sem]) rfl ⟨rfl, by first | exact (Gr.refl [] w).alloc _ | exact ((((Gr.refl [] w).alloc _).setCell (p := ⟨w.heap.size, 0, none⟩) (.inr (Nat.le_refl _)) _).setCell (p := ⟨w.heap.size, 1, none⟩) (.inr (Nat.le_refl _)) _).setCell (p := ⟨w.heap.size, 2, none⟩) (.inr (Nat.le_refl _)) _⟩
def slotJ (P : PlanR) (j i : Nat) : Int := slotI (sAt P.l j) (gAt P.l j) (P.l : Int) (i : Int)
theorem rslot_any (i : Nat) (h : RgIs w kb q a P B m j c) (hi : i < P.l) : Calls Tryz.prog 132 #[.pointer (some ⟨kb, 0, none⟩), .int .i64 (i : Int)] w fun e w' => e = .returned (.int .i64 (slotJ P j i)) ∧ Gr [] w w' := by
  have c1 := h.c1
  have c5 := h.c5
  have c6 := h.c6
  have c7 := h.c7
  have HS := Lib.hid (fun W => slot_yes (sAt P.l j) (gAt P.l j) (j : Int) (P.l : Int) (i : Int) W (at_right P.l j h.ok.l1 h.ok.l2) (by omega) (by omega))
  obtain ⟨z, hz⟩ : ∃ z, z = slotJ P j i := ⟨_, rfl⟩
  rw [show slotI (sAt P.l j) (gAt P.l j) (P.l : Int) (i : Int) = z from hz.symm] at HS
  rw [← hz]
  clear h hz
  generalize sAt P.l j = sj at *
  generalize gAt P.l j = gj at *
  have k1 := kp_cell (a := ⟨kb, 1, none⟩) c1
  have k5 := kp_cell (a := ⟨kb, 5, none⟩) c5
  have k6 := kp_cell (a := ⟨kb, 6, none⟩) c6
  have k7 := kp_cell (a := ⟨kb, 7, none⟩) c7
  have hne := kp_ne w
  clear c1 c5 c6 c7
  go_enter Tryz.func132, Tryz.ntmps132
  go_wp2_with fail
  refine wp_region_kp (by kernel_rfl) (by kernel_rfl) ?_
  repeat (go_big_quiet_step ((rename_i x; exact kp_call x (HS.out _))))
  with_reducible refine wpQuiet_nil ?_
  rintro _ ⟨y, rfl⟩
  have HG := Lib.hid (Gr.ofBelow (cs := []) y.h)
  clear k1 k5 k6 k7 hne
  generalize y.w = w2 at *
  go_wp2_with fail
  go_ret
  exact ⟨rfl, HG.out⟩
end
end Go.Proofs.YtefmbchebobceaaGreat

/-
  Layer 4: what a Put leaves on a device that is on, with no fuse, with nothing pending; wakes.
-/
namespace Go.Proofs.YtefmbchebobceaaGreat
open Go.RowKit

structure Calm (D : DevS) : Prop where
  off : D.off = false
  fuse : D.fuse = 0
  buf : ∀ z, D.buf z = none
structure Sto (D D' : DevS) (B i : Nat) (f : Nat → Nat) : Prop where
  n : D'.n = D.n
  off : D'.off = false
  fuse : D'.fuse = 0
  bad : D'.bad = D.bad
  med : D'.med = D.med
  cnt : D'.cnt = D.cnt + i
  buf : ∀ z : Int, D'.buf z = if (B : Int) ≤ z ∧ z < (B : Int) + i then some (f (z - B).toNat, false) else none
structure PutS (D D' : DevS) (l B m : Nat) (f : Nat → Nat) : Prop where
  n : D'.n = D.n
  calm : Calm D'
  bad : D'.bad = D.bad
  cnt : D'.cnt = D.cnt + m + 2
  med : ∀ x, D'.med x = if B ≤ x ∧ x < B + m ∧ D.bad l = false then f (x - B) else D.med x
theorem Sto.start {D : DevS} (h : Calm D) (B : Nat) (f : Nat → Nat) : Sto D D B 0 f :=
  ⟨rfl, h.off, h.fuse, rfl, rfl, rfl, fun z => by rw [if_neg (by omega)]; exact h.buf z⟩
theorem stos_live (D : DevS) (l k m : Nat) (f : Nat → Nat) (hl : l < D.n) (hk : k + m ≤ 8) : ∀ (r i : Nat) (D' : DevS), i + r = m → Sto D D' (8 * l + k) i f → ∃ E, stos l k f r i D' = (0, E) ∧ PutS D E l (8 * l + k) m f
  | 0, i, D', hi, h => by
    obtain rfl : i = m := by omega
    have h1 := live_e (D := D') (t := isLine D' (l : Int)) h.off h.fuse (by unfold isLine; rw [decide_eq_true_eq, h.n]; omega)
    obtain ⟨D2, hD2⟩ : ∃ D2, D2 = flushF (l : Int) D' := ⟨_, rfl⟩
    have o2 : D2.off = false := by rw [hD2]; exact h.off
    have u2 : D2.fuse = 0 := by rw [hD2]; exact h.fuse
    have h2 := live_e (D := D2) (t := true) o2 u2 rfl
    have b2 : ∀ z : Int, D2.buf z = if ((8 * l + k : Nat) : Int) ≤ z ∧ z < ((8 * l + k : Nat) : Int) + i then some (f (z - ((8 * l + k : Nat) : Int)).toNat, true) else none := fun z => by
      rw [hD2]
      show flF D'.buf ((l : Int).toNat) 8 z = _
      rw [Int.toNat_natCast]
      unfold flF
      rw [h.buf z]
      by_cases c : ((8 * l + k : Nat) : Int) ≤ z ∧ z < ((8 * l + k : Nat) : Int) + i
      · rw [if_pos c, if_pos c, if_pos (by omega)]; rfl
      · rw [if_neg c, if_neg c]; split <;> rfl
    have s2 : ∀ x : Nat, fluS D2 x = decide (8 * l + k ≤ x ∧ x < 8 * l + k + i) := fun x => by
      unfold fluS
      rw [b2]
      by_cases c : 8 * l + k ≤ x ∧ x < 8 * l + k + i
      · rw [if_pos (by omega), decide_eq_true c]; rfl
      · rw [if_neg (by omega), decide_eq_false c]; rfl
    refine ⟨fenceF D2, ?_, ?_⟩
    · unfold stos finS
      rw [h1.1, if_pos rfl, h1.2, ← hD2, h2.1, h2.2]
    · refine ⟨by rw [hD2]; exact h.n, ⟨o2, u2, fun z => ?_⟩, by rw [hD2]; exact h.bad, by rw [hD2]; show D'.cnt + 1 + 1 = _; rw [h.cnt], fun x => ?_⟩
      · show perBuf D2 (fluS D2) z = none
        unfold perBuf
        rw [s2, b2]
        by_cases c : ((8 * l + k : Nat) : Int) ≤ z ∧ z < ((8 * l + k : Nat) : Int) + i
        · rw [if_pos ⟨by omega, by rw [decide_eq_true_eq]; omega⟩]
        · rw [if_neg c]; split <;> rfl
      · show perMed D2 (fluS D2) x = _
        unfold perMed
        have hb : D2.bad = D.bad := by rw [hD2]; exact h.bad
        have hm : D2.med = D.med := by rw [hD2]; exact h.med
        rw [s2, b2, hb, hm]
        by_cases c : 8 * l + k ≤ x ∧ x < 8 * l + k + i
        · rw [decide_eq_true c, if_pos (show ((8 * l + k : Nat) : Int) ≤ (x : Int) ∧ (x : Int) < ((8 * l + k : Nat) : Int) + i by omega), show x / 8 = l by omega]
          cases hbl : D.bad l with
          | true => rw [if_neg (by simp), if_neg (by simp)]
          | false =>
            rw [if_pos ⟨rfl, rfl⟩, if_pos ⟨c.1, c.2, rfl⟩]
            show f ((x : Int) - ((8 * l + k : Nat) : Int)).toNat = _
            congr 1
            omega
        · rw [decide_eq_false c, if_neg (by simp), if_neg (fun e => c ⟨e.1, e.2.1⟩)]
  | r + 1, i, D', hi, h => by
    have h1 := live_e (D := D') (t := isWord D' ((8 * l + k + i : Nat) : Int)) h.off h.fuse (by unfold isWord; rw [decide_eq_true_eq, h.n]; omega)
    have hs : Sto D (storeF ((8 * l + k + i : Nat) : Int) (f i) D') (8 * l + k) (i + 1) f := by
      refine ⟨h.n, h.off, h.fuse, h.bad, h.med, by show D'.cnt + 1 = _; rw [h.cnt]; omega, fun z => ?_⟩
      show updZ D'.buf ((8 * l + k + i : Nat) : Int) (some (f i, false)) z = _
      unfold updZ
      by_cases e : z = ((8 * l + k + i : Nat) : Int)
      · subst e
        rw [if_pos rfl, if_pos (by omega)]
        congr 3
        omega
      · rw [if_neg e, h.buf z]
        by_cases c : ((8 * l + k : Nat) : Int) ≤ z ∧ z < ((8 * l + k : Nat) : Int) + i
        · rw [if_pos c, if_pos (by omega)]
        · rw [if_neg c, if_neg (by omega)]
    obtain ⟨E, e1, e2⟩ := stos_live D l k m f hl hk r (i + 1) _ (by omega) hs
    refine ⟨E, ?_, e2⟩
    unfold stos
    rw [h1.1, if_pos rfl, h1.2]
    exact e1
theorem put_calm {D : DevS} {l : Nat} {s : ByteArray} (h : Calm D) (hl : l < D.n) (hs : s.size = 64) : ∃ E, putE D (l : Int) s = (0, E) ∧ PutS D E l (8 * l) 8 (wdL s.data.toList) := by
  obtain ⟨E, e1, e2⟩ := stos_live D l 0 8 (wdL s.data.toList) hl (by omega) 8 0 D (by omega) (.start h _ _)
  refine ⟨E, ?_, e2⟩
  unfold putE
  rw [if_neg (by simp [hs]), if_pos (by unfold isLine; rw [decide_eq_true_eq]; omega), Int.toNat_natCast]
  exact e1
theorem putword_calm {D : DevS} {l k v : Nat} (h : Calm D) (hl : l < D.n) (hk : k < 8) : ∃ E, pwE D (l : Int) (k : Int) v = (0, E) ∧ PutS D E l (8 * l + k) 1 (fun _ => v) := by
  obtain ⟨E, e1, e2⟩ := stos_live D l k 1 (fun _ => v) hl (by omega) 1 0 D (by omega) (.start h _ _)
  refine ⟨E, ?_, e2⟩
  unfold pwE
  rw [if_neg (by omega), if_pos (by unfold isLine; rw [decide_eq_true_eq]; omega), Int.toNat_natCast, Int.toNat_natCast]
  exact e1
theorem calm_load {D : DevS} (h : Calm D) (i : Nat) : loadV D i = D.med i := by unfold loadV; rw [h.buf]
theorem took_of {D : DevS} {l : Nat} {s : ByteArray} (hl : l < D.n) (hs : s.size = 64) (hm : ∀ k, k < 8 → D.med (8 * l + k) = wdL s.data.toList k) : tookB D (l : Int) s = true := by
  unfold tookB
  rw [decide_eq_true hs, show isLine D (l : Int) = true by unfold isLine; rw [decide_eq_true_eq]; omega, Int.toNat_natCast, Bool.true_and, Bool.true_and, List.all_eq_true]
  intro k hk
  rw [List.mem_range] at hk
  simpa using hm k hk
/-! ### wakes -/
end Go.Proofs.YtefmbchebobceaaGreat

/-
  Layer 4: Mixed, the reference's Mixed.
-/
namespace Go.Proofs.YtefmbchebobceaaGreat
open Go.RowKit
set_option linter.unusedVariables false

def mixB (was is got : ByteArray) : Bool := decide (was.size = 64 ∧ is.size = 64 ∧ got.size = 64) && (List.range 8).all fun k => wdL got.data.toList k == wdL was.data.toList k || wdL got.data.toList k == wdL is.data.toList k
/-! ### The reference's -/
end Go.Proofs.YtefmbchebobceaaGreat

/-
  LineMixes.
-/
namespace Go.Proofs.YtefmbchebobceaaGreat
open Go.RowKit
set_option linter.unusedVariables false

def MixTo (A B G : ByteArray) (k : Nat) : Prop := G.size = 8 * k ∧ ∀ j, j < k → wdL G.data.toList j = wdL A.data.toList j ∨ wdL G.data.toList j = wdL B.data.toList j
theorem MixTo.all {A B G : ByteArray} (hA : A.size = 64) (hB : B.size = 64) (h : MixTo A B G 8) : mixB A B G = true := by
  unfold mixB
  rw [decide_eq_true ⟨hA, hB, h.1⟩, Bool.true_and, List.all_eq_true]
  intro j hj
  rw [List.mem_range] at hj
  rcases h.2 j hj with q | q <;> simp [q]
end Go.Proofs.YtefmbchebobceaaGreat

/-
  LineTorn: what is left where the power fails.
-/
namespace Go.Proofs.YtefmbchebobceaaGreat
open Go.RowKit

theorem op_cases {D : DevS} {t : Bool} (ho : D.off = false) (ht : t = true) : (opE D t = 6 ∧ ∀ f, opD D t f = { D with fuse := 0, off := true }) ∨ (opE D t = 0 ∧ ∀ f, opD D t f = f (lit D)) := by
  have hr : reachE D t = 0 := by unfold reachE; rw [ho, ht]; rfl
  by_cases hf : D.fuse = 1
  · exact .inl ⟨opE_fuse hr hf, fun f => opD_fuse hr hf⟩
  · exact .inr ⟨opE_ok hr hf, fun f => opD_ok hr hf⟩
/-! ### The texts -/
theorem bytes_eq {x y : ByteArray} (hx : x.size = 64) (hy : y.size = 64) (h : ∀ k, k < 8 → wdL x.data.toList k = wdL y.data.toList k) : x = y := by
  apply ByteArray.ext
  apply Array.ext'
  have e1 := cat_wdL 8 x.data.toList hx
  have e2 := cat_wdL 8 y.data.toList hy
  rw [← e1, ← e2]
  congr 1
  apply List.map_congr_left
  intro k hk
  exact h k (by simpa using hk)
end Go.Proofs.YtefmbchebobceaaGreat

/-
  Layer 5: a Put or PutWord on a device that may have a fuse: done whole, or cut before its fence.
-/
namespace Go.Proofs.YtefmbchebobceaaGreat
open Go.RowKit
set_option linter.unusedVariables false

structure Live (D : DevS) : Prop where
  off : D.off = false
  buf : ∀ z, D.buf z = none
structure StoL (D D' : DevS) (B i : Nat) (f : Nat → Nat) : Prop where
  n : D'.n = D.n
  off : D'.off = false
  bad : D'.bad = D.bad
  med : D'.med = D.med
  buf : ∀ z : Int, D'.buf z = if (B : Int) ≤ z ∧ z < (B : Int) + i then some (f (z - B).toNat, false) else none
structure Whole (D E : DevS) (l B m : Nat) (f : Nat → Nat) : Prop where
  live : Live E
  n : E.n = D.n
  bad : E.bad = D.bad
  med : ∀ x, E.med x = if B ≤ x ∧ x < B + m ∧ D.bad l = false then f (x - B) else D.med x
structure Torn (D E : DevS) (B m : Nat) (f : Nat → Nat) : Prop where
  off : E.off = true
  n : E.n = D.n
  bad : E.bad = D.bad
  med : E.med = D.med
  pend : ∀ z v, E.buf z = some v → ∃ j, j < m ∧ z = ((B + j : Nat) : Int) ∧ v.1 = f j
theorem StoL.torn {D D' : DevS} {B i m : Nat} {f : Nat → Nat} (h : StoL D D' B i f) (hi : i ≤ m) : Torn D { D' with fuse := 0, off := true } B m f :=
  ⟨rfl, h.n, h.bad, h.med, fun z v hz => by
    have hz2 : D'.buf z = some v := hz
    rw [h.buf z] at hz2
    split at hz2
    · rename_i c
      injection hz2 with hz2
      exact ⟨(z - B).toNat, by omega, by omega, by rw [← hz2]⟩
    · cases hz2⟩
theorem stos_any (D : DevS) (l k m : Nat) (f : Nat → Nat) (hl : l < D.n) (hk : k + m ≤ 8) : ∀ (r i : Nat) (D' : DevS), i + r = m → StoL D D' (8 * l + k) i f →
    (∃ E, stos l k f r i D' = (0, E) ∧ Whole D E l (8 * l + k) m f) ∨ (∃ E, stos l k f r i D' = (6, E) ∧ Torn D E (8 * l + k) m f)
  | 0, i, D', hi, h => by
    obtain rfl : i = m := by omega
    unfold stos finS
    rcases op_cases (D := D') (t := isLine D' (l : Int)) h.off (by unfold isLine; rw [decide_eq_true_eq, h.n]; omega) with ⟨h1, h2⟩ | ⟨h1, h2⟩
    · rw [h1, if_neg (by omega), h2]
      exact .inr ⟨_, rfl, h.torn (Nat.le_refl _)⟩
    · rw [h1, if_pos rfl, h2]
      obtain ⟨D2, hD2⟩ : ∃ D2, D2 = flushF (l : Int) (lit D') := ⟨_, rfl⟩
      rw [← hD2]
      have o2 : D2.off = false := by rw [hD2]; exact h.off
      have b2 : ∀ z : Int, D2.buf z = if ((8 * l + k : Nat) : Int) ≤ z ∧ z < ((8 * l + k : Nat) : Int) + i then some (f (z - ((8 * l + k : Nat) : Int)).toNat, true) else none := fun z => by
        rw [hD2]
        show flF D'.buf ((l : Int).toNat) 8 z = _
        rw [Int.toNat_natCast]
        unfold flF
        rw [h.buf z]
        by_cases c : ((8 * l + k : Nat) : Int) ≤ z ∧ z < ((8 * l + k : Nat) : Int) + i
        · rw [if_pos c, if_pos c, if_pos (by omega)]; rfl
        · rw [if_neg c, if_neg c]; split <;> rfl
      have n2 : D2.n = D.n := by rw [hD2]; exact h.n
      have bd2 : D2.bad = D.bad := by rw [hD2]; exact h.bad
      have md2 : D2.med = D.med := by rw [hD2]; exact h.med
      rcases op_cases (D := D2) (t := true) o2 rfl with ⟨q1, q2⟩ | ⟨q1, q2⟩
      · rw [q1, q2]
        refine .inr ⟨_, rfl, rfl, n2, bd2, md2, fun z v hz => ?_⟩
        have hz2 : D2.buf z = some v := hz
        rw [b2 z] at hz2
        split at hz2
        · injection hz2 with hz2
          exact ⟨(z - ((8 * l + k : Nat) : Int)).toNat, by omega, by omega, by rw [← hz2]⟩
        · cases hz2
      · rw [q1, q2]
        obtain ⟨D3, hD3⟩ : ∃ D3, D3 = lit D2 := ⟨_, rfl⟩
        rw [← hD3]
        have b3 : D3.buf = D2.buf := by rw [hD3]; rfl
        have n3 : D3.n = D.n := by rw [hD3]; exact n2
        have bd3 : D3.bad = D.bad := by rw [hD3]; exact bd2
        have md3 : D3.med = D.med := by rw [hD3]; exact md2
        have o3 : D3.off = false := by rw [hD3]; exact o2
        have s3 : ∀ x : Nat, fluS D3 x = decide (8 * l + k ≤ x ∧ x < 8 * l + k + i) := fun x => by
          unfold fluS
          rw [b3, b2]
          by_cases c : 8 * l + k ≤ x ∧ x < 8 * l + k + i
          · rw [if_pos (by omega), decide_eq_true c]; rfl
          · rw [if_neg (by omega), decide_eq_false c]; rfl
        refine .inl ⟨fenceF D3, rfl, ⟨o3, fun z => ?_⟩, n3, bd3, fun x => ?_⟩
        · show perBuf D3 (fluS D3) z = none
          unfold perBuf
          rw [s3, b3, b2]
          by_cases c : ((8 * l + k : Nat) : Int) ≤ z ∧ z < ((8 * l + k : Nat) : Int) + i
          · rw [if_pos ⟨by omega, by rw [decide_eq_true_eq]; omega⟩]
          · rw [if_neg c]; split <;> rfl
        · show perMed D3 (fluS D3) x = _
          unfold perMed
          rw [s3, b3, b2, bd3, md3]
          by_cases c : 8 * l + k ≤ x ∧ x < 8 * l + k + i
          · rw [decide_eq_true c, if_pos (show ((8 * l + k : Nat) : Int) ≤ (x : Int) ∧ (x : Int) < ((8 * l + k : Nat) : Int) + i by omega), show x / 8 = l by omega]
            cases hbl : D.bad l with
            | true => rw [if_neg (by simp), if_neg (by simp)]
            | false =>
              rw [if_pos ⟨rfl, rfl⟩, if_pos ⟨c.1, c.2, rfl⟩]
              show f ((x : Int) - ((8 * l + k : Nat) : Int)).toNat = _
              congr 1
              omega
          · rw [decide_eq_false c, if_neg (by simp), if_neg (fun e => c ⟨e.1, e.2.1⟩)]
  | r + 1, i, D', hi, h => by
    unfold stos
    rcases op_cases (D := D') (t := isWord D' ((8 * l + k + i : Nat) : Int)) h.off (by unfold isWord; rw [decide_eq_true_eq, h.n]; omega) with ⟨h1, h2⟩ | ⟨h1, h2⟩
    · rw [h1, if_neg (by omega), h2]
      exact .inr ⟨_, rfl, h.torn (by omega)⟩
    · rw [h1, if_pos rfl, h2]
      refine stos_any D l k m f hl hk r (i + 1) _ (by omega) ⟨h.n, h.off, h.bad, h.med, fun z => ?_⟩
      show updZ D'.buf ((8 * l + k + i : Nat) : Int) (some (f i, false)) z = _
      unfold updZ
      by_cases e : z = ((8 * l + k + i : Nat) : Int)
      · subst e
        rw [if_pos rfl, if_pos (by omega)]
        congr 3
        omega
      · rw [if_neg e, h.buf z]
        by_cases c : ((8 * l + k : Nat) : Int) ≤ z ∧ z < ((8 * l + k : Nat) : Int) + i
        · rw [if_pos c, if_pos (by omega)]
        · rw [if_neg c, if_neg (by omega)]
theorem StoL.start {D : DevS} (h : Live D) (B : Nat) (f : Nat → Nat) : StoL D D B 0 f := ⟨rfl, h.off, rfl, rfl, fun z => by rw [if_neg (by omega)]; exact h.buf z⟩
theorem put_live {D : DevS} {l : Nat} {s : ByteArray} (h : Live D) (hl : l < D.n) (hs : s.size = 64) :
    (∃ E, putE D (l : Int) s = (0, E) ∧ Whole D E l (8 * l) 8 (wdL s.data.toList)) ∨ (∃ E, putE D (l : Int) s = (6, E) ∧ Torn D E (8 * l) 8 (wdL s.data.toList)) := by
  unfold putE
  rw [if_neg (by simp [hs]), if_pos (by unfold isLine; rw [decide_eq_true_eq]; omega), Int.toNat_natCast]
  exact stos_any D l 0 8 (wdL s.data.toList) hl (by omega) 8 0 D (by omega) (.start h _ _)
theorem putword_live {D : DevS} {l k v : Nat} (h : Live D) (hl : l < D.n) (hk : k < 8) :
    (∃ E, pwE D (l : Int) (k : Int) v = (0, E) ∧ Whole D E l (8 * l + k) 1 (fun _ => v)) ∨ (∃ E, pwE D (l : Int) (k : Int) v = (6, E) ∧ Torn D E (8 * l + k) 1 (fun _ => v)) := by
  unfold pwE
  rw [if_neg (by omega), if_pos (by unfold isLine; rw [decide_eq_true_eq]; omega), Int.toNat_natCast, Int.toNat_natCast]
  exact stos_any D l k 1 (fun _ => v) hl (by omega) 1 0 D (by omega) (.start h _ _)
end Go.Proofs.YtefmbchebobceaaGreat

/-
  Layer 5: Format.
-/
namespace Go.Proofs.YtefmbchebobceaaGreat
open Go.RowKit

def zeroT : ByteArray := ⟨(catL [0, 0, 0, 0, 0, 0, 0, 0]).toArray⟩
theorem zeroT_size : zeroT.size = 64 := by
  show (catL _).toArray.size = 64
  rw [List.size_toArray, catL_length]; rfl
theorem zeroT_word {k : Nat} (h : k < 8) : wdL zeroT.data.toList k = 0 := by
  rcases (show k = 0 ∨ k = 1 ∨ k = 2 ∨ k = 3 ∨ k = 4 ∨ k = 5 ∨ k = 6 ∨ k = 7 by omega) with rfl | rfl | rfl | rfl | rfl | rfl | rfl | rfl <;> decide +kernel
theorem check_ok {p : PlanZ} {n : Int} (h : checkZ p n = 0) : okZ p = true ∧ p.a + sizeZ p ≤ n := by
  unfold checkZ at h
  by_cases hp : okZ p = true
  · rw [if_pos hp] at h
    refine ⟨hp, ?_⟩
    by_cases hn : n < p.a + sizeZ p
    · rw [if_pos hn] at h; omega
    · omega
  · rw [if_neg hp] at h; omega
section
variable {w : World} {a : DevA} {D : DevS} {p : PlanZ} {c : Nat}
theorem linesK {W : World} (h : DevIs W a D) : Calls Tryz.prog 88 #[.pointer (some ⟨a.bd, 0, none⟩)] W fun e w' => e = .returned (.int .i64 D.n) ∧ Below W.heap.size W w' :=
  (lines_any a D W h).mono (by rintro e w' ⟨rfl, rfl⟩; exact ⟨rfl, Below.refl _ _⟩)
theorem DevIs.kp {W : World} (h : DevIs w a D) (x : Kp w W) : DevIs W a D := h.gr0 (Gr.ofBelow x)
end
end Go.Proofs.YtefmbchebobceaaGreat

/-
  Layer 5: note.
-/
namespace Go.Proofs.YtefmbchebobceaaGreat
open Go.RowKit

def noteBad (p : PlanZ) (k v : Nat) (B : BkS) : Prop := guardN v ≠ v ∨ B.used < k ∨ low48 v = 0 ∨ (p.l < (low48 v : Int) ∧ low48 v ≠ 65535)
instance (p : PlanZ) (k v : Nat) (B : BkS) : Decidable (noteBad p k v B) := by unfold noteBad; infer_instance
def noteB (k v : Nat) (B : BkS) : BkS := ⟨B.used + 1, if low48 v = 65535 then B.wh else updZ B.wh ((low48 v : Int) - 1) (some k)⟩
def noteS (p : PlanZ) (k v : Nat) (B : BkS) : Int × BkS := if v = 0 then (0, B) else if noteBad p k v B then (5, B) else (0, noteB k v B)
theorem low48_lt (v : Nat) : low48 v < 281474976710656 := by unfold low48; omega
section
variable {w : World} {q : BkA} {a : DevA} {p : PlanZ} {B : BkS} {m : Nat}
theorem note_zero (k : Nat) : Calls Tryz.prog 191 #[.pointer (some ⟨q.b, 0, none⟩), .int .i64 (k : Int), .int .u64 0] w fun e w' => e = .returned (.int .i64 0) ∧ w' = w := by
  go_enter Tryz.func191, Tryz.ntmps191
  go_wp2_with fail
  go_ret
  exact ⟨rfl, rfl⟩
end
end Go.Proofs.YtefmbchebobceaaGreat
