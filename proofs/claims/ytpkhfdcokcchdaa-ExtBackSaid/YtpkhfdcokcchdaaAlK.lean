/-
  alloc: what each law first looks at.
-/
import Derived.Test.YtpkhfdcokcchdaaAlJ
import Derived.Laws.StructEq
namespace Go.Proofs.Ytpkhfdcokcchdaa
open Go.RowKit

theorem aeqIn (x1 x2 y1 y2 : Int) (w : World) : (Op.equalIn 10000 35 (.agg #[.int .i64 x1, .int .i64 x2]) (.agg #[.int .i64 y1, .int .i64 y2])).run Try.prog w = .ok (x1 == y1 && x2 == y2) w := by
  have u3 := Try.underlying3
  have a3 := Try.isAgg3
  have z3 := Try.sizeOf3
  have hS : Try.prog.underlying 35 = some (.struct (Try.prog.fieldsOf 35)) := by kernel_rfl
  have hp : Try.prog.stoodInHeld 35 = false := by kernel_rfl
  rw [show (10000 : Nat) = 9999 + 1 from rfl, run_equalIn_agg w 9999 35 _ _ hS hp]
  simp only [Program.fieldsOf, Try.underlying35]
  go_simp
  by_cases h1 : x1 = y1 <;> by_cases h2 : x2 = y2 <;> simp [h1, h2]
theorem sl2_rd {w : World} {ao : Option Addr} {n c : Nat} {l : List (Int × Int)} (h : Sl2 w (.slice ao n c) l) : Rd2 w ao l := by
  obtain ⟨ao', c', e, r, _⟩ := h
  injection e with e1 e2 e3
  subst e1
  exact r
theorem atake_is (N : Nat) (l l' t : List (Nat × Nat)) (ao : Option Addr) (cap n m1 m2 : Nat) (w : World) (h : SetIs w N l ao cap) (hn : 1 ≤ n) (hs : n ≤ sumL l) (ht : takeL l n = (l', t)) (h1 : m1 = l'.length) (h2 : m2 = t.length) :
    Calls Try.prog 21 #[.agg #[.int .i64 N, .slice ao l.length cap], .int .i64 n] w fun r w' => ∃ ao' cap' a2 c2, r = .returned (.tuple #[.agg #[.int .i64 N, .slice ao' m1 cap'], .slice a2 m2 c2, .int .i64 0]) ∧ SetIs w' N l' ao' cap' ∧ Sl2 w' (.slice a2 m2 c2) (zl t) ∧ Gr [] w w' := by
  have := atake_yes N l ao cap n w h hn hs
  rw [ht, ← h1, ← h2] at this
  exact this
theorem aguard : Try.prog.eqGuardType Try.prog.depth 35 = false := by kernel_rfl

set_option maxHeartbeats 4000000 in
set_option maxRecDepth 20000 in
theorem wakes14_any (w : World) : Calls Try.prog 16 #[] w fun e w' => e = .returned (.bool true) ∧ Gr [] w w' := by
  have heq := aeqIn
  have hgd := aguard
  have hgr := fun (W : World) (op : BinOp) (x y : Operand) (xs ys : Array Value) => run_eqGuard_agg (P := Try.prog) (w := W) op 35 x y xs ys aguard
  go_enter Try.func16, Try.ntmps16
  go_wp2_with fail
  refine (anew_runs 10 _ (by decide) (by decide)).mono ?_
  rintro e w1 ⟨ao, cap, rfl, s1, g1⟩
  have ga := (Gr.refl [] w1).alloc (Obj.cells #[.int .i64 10, .slice ao 1 cap] 25)
  have X1 := Holds.new w1 #[.int .i64 10, .slice ao 1 cap] 25
  have x0 : (w1.alloc (Obj.cells #[.int .i64 10, .slice ao 1 cap] 25)).cell? ⟨w1.heap.size, 0, none⟩ = some (.int .i64 10) := X1.cell 0
  have x1 : (w1.alloc (Obj.cells #[.int .i64 10, .slice ao 1 cap] 25)).cell? ⟨w1.heap.size, 1, none⟩ = some (.slice ao 1 cap) := X1.cell 1
  have H1 := Lib.hid (And.intro (s1.gr0 ga) (And.intro X1 (g1.next0 ga)))
  clear s1 g1 ga X1
  go_wp2_with fail
  have hu := ause_some 10 [(0, 10)] [(0, 3), (5, 5)] ao cap 3 2 _ H1.out.1 (by decide) (by decide)
  refine hu.mono ?_
  rintro e w2 ⟨ao2, cap2, rfl, s2, g2, -⟩
  clear hu x0 x1
  have X1 := H1.out.2.1.gr0 g2
  have G2 := H1.out.2.2.next0 g2
  have S1 := H1.out.1.gr0 g2
  clear H1 g2
  have ga := (Gr.refl [] w2).alloc (Obj.cells #[.int .i64 10, .slice ao2 2 cap2] 25)
  have Y := Holds.new w2 #[.int .i64 10, .slice ao2 2 cap2] 25
  have y0 : (w2.alloc (Obj.cells #[.int .i64 10, .slice ao2 2 cap2] 25)).cell? ⟨w2.heap.size, 0, none⟩ = some (.int .i64 10) := Y.cell 0
  have y1 : (w2.alloc (Obj.cells #[.int .i64 10, .slice ao2 2 cap2] 25)).cell? ⟨w2.heap.size, 1, none⟩ = some (.slice ao2 2 cap2) := Y.cell 1
  have H2 := Lib.hid (And.intro (S1.gr0 ga) (And.intro (X1.gr0 ga) (And.intro (G2.next0 ga) (And.intro (s2.gr0 ga) Y))))
  clear S1 X1 G2 ga s2 Y
  go_wp2_with fail
  have hu := atake_is 10 [(0, 3), (5, 5)] [(0, 3), (9, 1)] [(5, 4)] ao2 cap2 4 2 1 _ H2.out.2.2.2.1 (by decide) (by decide) (by decide) rfl rfl
  refine hu.mono ?_
  rintro e w3 ⟨ao3, cap3, a2, c2, rfl, s3, t3, g3⟩
  clear hu y0 y1
  have ga := (Gr.refl [] w3).alloc (Obj.cells #[.int .i64 10, .slice ao3 2 cap3] 25)
  have gg := g3.trans ga
  have Y := H2.out.2.2.2.2.gr0 gg
  have y0 : (w3.alloc (Obj.cells #[.int .i64 10, .slice ao3 2 cap3] 25)).cell? ⟨w2.heap.size, 0, none⟩ = some (.int .i64 10) := Y.cell 0
  have y1 : (w3.alloc (Obj.cells #[.int .i64 10, .slice ao3 2 cap3] 25)).cell? ⟨w2.heap.size, 1, none⟩ = some (.slice ao2 2 cap2) := Y.cell 1
  have H3 := Lib.hid (And.intro (H2.out.1.gr0 gg) (And.intro (H2.out.2.1.gr0 gg) (And.intro (H2.out.2.2.1.next0 gg) (And.intro (H2.out.2.2.2.1.gr0 gg) (t3.gr0 ga)))))
  clear H2 g3 s3 t3 ga gg Y
  go_wp2_with fail
  have hu := atake_is 10 [(0, 3), (5, 5)] [(8, 2)] [(0, 3), (5, 3)] ao2 cap2 6 1 2 _ H3.out.2.2.2.1 (by decide) (by decide) (by decide) rfl rfl
  refine hu.mono ?_
  rintro e w4 ⟨ao4, cap4, a3, c3, rfl, s4, t4, g4⟩
  clear hu y0 y1
  have ga := (Gr.refl [] w4).alloc (Obj.cells #[.int .i64 10, .slice ao4 1 cap4] 25)
  have gg := g4.trans ga
  have X := H3.out.2.1.gr0 gg
  have x0 : (w4.alloc (Obj.cells #[.int .i64 10, .slice ao4 1 cap4] 25)).cell? ⟨w1.heap.size, 0, none⟩ = some (.int .i64 10) := X.cell 0
  have x1 : (w4.alloc (Obj.cells #[.int .i64 10, .slice ao4 1 cap4] 25)).cell? ⟨w1.heap.size, 1, none⟩ = some (.slice ao 1 cap) := X.cell 1
  have r2 := sl2_rd (H3.out.2.2.2.2.gr0 gg)
  have r3 := sl2_rd (t4.gr0 ga)
  obtain ⟨b2, o2, rfl, -, p1, p2⟩ := r2 0 _ rfl
  obtain ⟨b3, o3, rfl, -, p3, p4⟩ := r3 1 _ rfl
  simp only [Nat.zero_mul, Nat.add_zero, Nat.one_mul] at p1 p2 p3 p4
  have HF := Lib.hid (afree_any 10 [(0, 10)] ao cap _ (H3.out.1.gr0 gg))
  have HG := Lib.hid (H3.out.2.2.1.next0 gg)
  clear H3 g4 s4 t4 ga gg X r2 r3
  go_wp2_with fail
  refine HF.out.mono ?_
  rintro e w5 ⟨rfl, g5⟩
  have HG5 := Lib.hid (HG.out.next0 g5)
  clear g5
  go_wp2_with fail
  go_ret
  exact ⟨rfl, HG5.out⟩

end Go.Proofs.Ytpkhfdcokcchdaa
