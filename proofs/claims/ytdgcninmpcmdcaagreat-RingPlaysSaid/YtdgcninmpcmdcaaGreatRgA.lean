/-
  Layer 7: a region in memory; Bank, Check, register, find, slot, State, Since.
-/
import Derived.Test.YtdgcninmpcmdcaaGreatSpZ
import Derived.Test.YtdgcninmpcmdcaaGreatMgW
import Derived.Test.YtdgcninmpcmdcaaGreatMgY
import Derived.Test.YtdgcninmpcmdcaaGreatMgG
import Derived.Test.YtdgcninmpcmdcaaGreatRegT
namespace Go.Proofs.YtdgcninmpcmdcaaGreat
open Go.RowKit
set_option linter.unusedVariables false

structure PlanR where
  a : Int
  l : Nat
  s : Int
  psi : Int
def bankR (P : PlanR) : PlanZ := ⟨P.a, (P.l : Int) + 2, P.s⟩
structure OkR (P : PlanR) : Prop where
  l1 : 1 ≤ P.l
  l2 : P.l ≤ 1024
  p1 : 1 ≤ P.psi
  p2 : P.psi ≤ 65535
  ok : okZ (bankR P) = true
def planRV (P : PlanR) : Value := .agg #[.int .i64 P.a, .int .i64 (P.l : Int), .int .i64 P.s, .int .i64 P.psi]
/-- The state's numbers behind j moves. -/
def stJ (P : PlanR) (j : Nat) : Value := .agg #[.int .i64 (sAt P.l j), .int .i64 (gAt P.l j), .int .u32 (j : Int)]
def rgRow (P : PlanR) (q : BkA) (j c : Nat) : Array Value := #[.int .i64 P.a, .int .i64 (P.l : Int), .int .i64 P.s, .int .i64 P.psi, .pointer (some ⟨q.b, 0, none⟩), .int .i64 (sAt P.l j), .int .i64 (gAt P.l j), .int .u32 (j : Int), .int .i64 (c : Int)]
/-- A region in memory, behind j moves, c writes since the last. -/
structure RgIs (w : World) (kb : Nat) (q : BkA) (a : DevA) (P : PlanR) (B : BkS) (m j c : Nat) : Prop where
  head : Holds w kb (rgRow P q j c) 90
  bk : BkIs w q a (bankR P) B m
  ok : OkR P
  kq : kb ∉ q.all
  ka : kb ∉ a.all
section
variable {w w' : World} {kb : Nat} {q : BkA} {a : DevA} {P : PlanR} {B : BkS} {m j c : Nat}
theorem RgIs.gr {bs : List Nat} (h : RgIs w kb q a P B m j c) (g : Gr bs w w') (hk : kb ∉ bs) (hn : ∀ b ∈ q.all, b ∉ bs) : RgIs w' kb q a P B m j c := ⟨h.head.gr g hk, h.bk.gr g hn, h.ok, h.kq, h.ka⟩
theorem RgIs.gr0 (h : RgIs w kb q a P B m j c) (g : Gr [] w w') : RgIs w' kb q a P B m j c := h.gr g (by simp) (by simp)
theorem RgIs.moreN (h : RgIs w kb q a P B m j c) {m' : Nat} (hm : m ≤ m') : RgIs w kb q a P B m' j c := ⟨h.head, h.bk.moreN _ hm, h.ok, h.kq, h.ka⟩
/-- The bank has moved. -/
theorem RgIs.bank {B' : BkS} {m' : Nat} (h : RgIs w kb q a P B m j c) (g : Gr (q.all ++ a.all) w w') (k : BkIs w' q a (bankR P) B' m') : RgIs w' kb q a P B' m' j c :=
  ⟨h.head.gr g (by simp only [List.mem_append, not_or]; exact ⟨h.kq, h.ka⟩), k, h.ok, h.kq, h.ka⟩
theorem RgIs.c0 (h : RgIs w kb q a P B m j c) : w.cell? ⟨kb, 0, none⟩ = some (.int .i64 P.a) := h.head.cell 0
theorem RgIs.c1 (h : RgIs w kb q a P B m j c) : w.cell? ⟨kb, 1, none⟩ = some (.int .i64 (P.l : Int)) := h.head.cell 1
theorem RgIs.c2 (h : RgIs w kb q a P B m j c) : w.cell? ⟨kb, 2, none⟩ = some (.int .i64 P.s) := h.head.cell 2
theorem RgIs.c3 (h : RgIs w kb q a P B m j c) : w.cell? ⟨kb, 3, none⟩ = some (.int .i64 P.psi) := h.head.cell 3
theorem RgIs.c4 (h : RgIs w kb q a P B m j c) : w.cell? ⟨kb, 4, none⟩ = some (.pointer (some ⟨q.b, 0, none⟩)) := h.head.cell 4
theorem RgIs.c5 (h : RgIs w kb q a P B m j c) : w.cell? ⟨kb, 5, none⟩ = some (.int .i64 (sAt P.l j)) := h.head.cell 5
theorem RgIs.c6 (h : RgIs w kb q a P B m j c) : w.cell? ⟨kb, 6, none⟩ = some (.int .i64 (gAt P.l j)) := h.head.cell 6
theorem RgIs.c7 (h : RgIs w kb q a P B m j c) : w.cell? ⟨kb, 7, none⟩ = some (.int .u32 (j : Int)) := h.head.cell 7
theorem RgIs.c8 (h : RgIs w kb q a P B m j c) : w.cell? ⟨kb, 8, none⟩ = some (.int .i64 (c : Int)) := h.head.cell 8
theorem bankf_any (hP : OkR P) (w : World) : Calls Tryz.prog 62 #[planRV P] w fun e w' => e = .returned (planV (bankR P)) ∧ Gr [] w w' := by
  have hl := hP.l2
  have HG := Lib.hid (((Gr.refl [] w).alloc (Obj.cells #[.int .i64 P.a, .int .i64 (P.l : Int), .int .i64 P.s, .int .i64 P.psi] 60)).alloc (Obj.cells #[.int .i64 0, .int .i64 0, .int .i64 0] 116))
  obtain ⟨x, hx⟩ : ∃ x : Int, (P.l : Int) + 2 = x := ⟨_, rfl⟩
  have a1 : IntKind.i64.wrap x = x := IntWalk.i64_in _ (by omega)
  unfold planRV planV bankR
  rw [hx]
  clear hP hl
  go_enter Tryz.func62, Tryz.ntmps62
  go_wp2_with fail
  exact bodyPost_ret (v := .agg #[.int .i64 P.a, .int .i64 x, .int .i64 P.s]) (by simp [results, Tryz.results62, go_sem]) rfl ⟨rfl, ((Gr.refl [] w).alloc _).alloc _⟩
theorem reg_any (hP : OkR P) (w : World) : Calls Tryz.prog 63 #[planRV P] w fun e w' => e = .returned (.int .i64 ((P.l : Int) + 1)) ∧ Gr [] w w' := by
  have hl := hP.l2
  have HG := Lib.hid ((Gr.refl [] w).alloc (Obj.cells #[.int .i64 P.a, .int .i64 (P.l : Int), .int .i64 P.s, .int .i64 P.psi] 60))
  obtain ⟨x, hx⟩ : ∃ x : Int, (P.l : Int) + 1 = x := ⟨_, rfl⟩
  have a1 : IntKind.i64.wrap x = x := IntWalk.i64_in _ (by omega)
  unfold planRV
  rw [hx]
  clear hP hl
  go_enter Tryz.func63, Tryz.ntmps63
  go_wp2_with fail
  go_ret
  exact ⟨rfl, HG.out⟩
theorem rfind_in (i : Nat) (h : RgIs w kb q a P B m j c) (hi : i < P.l) : Calls Tryz.prog 48 #[.pointer (some ⟨kb, 0, none⟩), .int .i64 (i : Int)] w fun e w' => e = .returned (.int .i64 0) ∧ w' = w := by
  have c1 := h.c1
  have ik : ¬ ((i : Int) < 0) := by omega
  have ik2 : ¬ ((P.l : Int) ≤ (i : Int)) := by omega
  clear h
  go_enter Tryz.func48, Tryz.ntmps48
  go_wp2_with fail
  go_ret
  exact ⟨rfl, rfl⟩
theorem rstate_any (h : RgIs w kb q a P B m j c) : Calls Tryz.prog 29 #[.pointer (some ⟨kb, 0, none⟩)] w fun e w' => e = .returned (stJ P j) ∧ Gr [] w w' := by
  have HG := Lib.hid ((Gr.refl [] w).alloc (Obj.cells #[.int .i64 0, .int .i64 0, .int .u32 0] 80))
  have c5 := (HG.out.cell0 h.head.lt).trans h.c5
  have c6 := (HG.out.cell0 h.head.lt).trans h.c6
  have c7 := (HG.out.cell0 h.head.lt).trans h.c7
  unfold stJ
  clear h
  go_enter Tryz.func29, Tryz.ntmps29
  go_wp2_with fail
  exact bodyPost_ret (v := .agg #[.int .i64 (sAt P.l j), .int .i64 (gAt P.l j), .int .u32 (j : Int)]) (by simp [results, Tryz.results29, go_sem]) rfl ⟨rfl, by first | exact (Gr.refl [] w).alloc _ | exact ((((Gr.refl [] w).alloc _).setCell (p := ⟨w.heap.size, 0, none⟩) (.inr (Nat.le_refl _)) _).setCell (p := ⟨w.heap.size, 1, none⟩) (.inr (Nat.le_refl _)) _).setCell (p := ⟨w.heap.size, 2, none⟩) (.inr (Nat.le_refl _)) _⟩
theorem rsince_any (h : RgIs w kb q a P B m j c) : Calls Tryz.prog 31 #[.pointer (some ⟨kb, 0, none⟩)] w fun e w' => e = .returned (.int .i64 (c : Int)) ∧ w' = w := by
  have c8 := h.c8
  clear h
  go_enter Tryz.func31, Tryz.ntmps31
  go_wp2_with fail
  go_ret
  exact ⟨rfl, rfl⟩
def slotJ (P : PlanR) (j i : Nat) : Int := slotI (sAt P.l j) (gAt P.l j) (P.l : Int) (i : Int)
theorem rslot_any (i : Nat) (h : RgIs w kb q a P B m j c) (hi : i < P.l) : Calls Tryz.prog 50 #[.pointer (some ⟨kb, 0, none⟩), .int .i64 (i : Int)] w fun e w' => e = .returned (.int .i64 (slotJ P j i)) ∧ Gr [] w w' := by
  have c1 := h.c1
  have c5 := h.c5
  have c6 := h.c6
  have c7 := h.c7
  have HS := Lib.hid (fun W => slot_yes (sAt P.l j) (gAt P.l j) (j : Int) (P.l : Int) (i : Int) W (at_right P.l j h.ok.l1 h.ok.l2) (by omega) (by omega))
  obtain ⟨z, hz⟩ : ∃ z, z = slotJ P j i := ⟨_, rfl⟩
  rw [show slotI (sAt P.l j) (gAt P.l j) (P.l : Int) (i : Int) = z from hz.symm] at HS
  rw [← hz]
  clear h hz
  generalize sAt P.l j = sj at *
  generalize gAt P.l j = gj at *
  have k1 := kp_cell (a := ⟨kb, 1, none⟩) c1
  have k5 := kp_cell (a := ⟨kb, 5, none⟩) c5
  have k6 := kp_cell (a := ⟨kb, 6, none⟩) c6
  have k7 := kp_cell (a := ⟨kb, 7, none⟩) c7
  have hne := kp_ne w
  clear c1 c5 c6 c7
  go_enter Tryz.func50, Tryz.ntmps50
  go_wp2_with fail
  refine wp_region_kp (by kernel_rfl) (by kernel_rfl) ?_
  repeat (go_big_quiet_step ((rename_i x; exact kp_call x (HS.out _))))
  with_reducible refine wpQuiet_nil ?_
  rintro _ ⟨y, rfl⟩
  have HG := Lib.hid (Gr.ofBelow (cs := []) y.h)
  clear k1 k5 k6 k7 hne
  generalize y.w = w2 at *
  go_wp2_with fail
  go_ret
  exact ⟨rfl, HG.out⟩
end
end Go.Proofs.YtdgcninmpcmdcaaGreat
