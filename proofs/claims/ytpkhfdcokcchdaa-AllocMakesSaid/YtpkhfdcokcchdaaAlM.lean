/-
  The walk of AllocMakes.
-/
import Derived.Test.YtpkhfdcokcchdaaAlK
namespace Go.Proofs.Ytpkhfdcokcchdaa
open Go.RowKit

theorem new_sum {N : Nat} {l : List (Nat × Nat)} (h : RunsF 0 N l) (hc : ∀ b, covB l b = decide (b < N)) : sumL l = N := by
  rw [new_runs h hc]
  split
  · rename_i e; subst e; rfl
  · simp [sumL]
set_option maxHeartbeats 4000000 in
set_option maxRecDepth 20000 in
theorem walk_AllocMakes (a0 : Int) (w0 : (Lit.int .i64 a0).wf = true) (w : World) :
    Calls Try.prog 4 #[.int .i64 a0] w fun e w' => e = .returned (.bool true) ∧ Below w.heap.size w w' := by
  have hmx := max0 Try.prog
  have hm0 := mx_nonneg a0
  have hbd := bounds_i64 w0
  have hm1 : mx a0 ≤ 9223372036854775807 := by unfold mx; omega
  go_enter Try.func4, Try.ntmps4
  go_wp2_with fail
  have X0 := Holds.new w #[.int .i64 a0, .int .i64 (mx a0 % 70000)] 3
  have G0 := (Gr.refl [] w).alloc (Obj.cells #[.int .i64 a0, .int .i64 (mx a0 % 70000)] 3)
  generalize w.alloc (Obj.cells #[.int .i64 a0, .int .i64 (mx a0 % 70000)] 3) = wa at *
  obtain ⟨B, hB⟩ : ∃ B, w.heap.size = B := ⟨_, rfl⟩
  rw [hB] at X0 ⊢
  have HB := Lib.hid hB
  clear hB
  obtain ⟨m0, hm⟩ : ∃ m0, m0 = mx a0 % 70000 := ⟨_, rfl⟩
  rw [← hm] at X0 ⊢
  clear hm hmx hm0 hm1 hbd
  go_loopw [14] (fun i wr => ∃ j : Nat, j ≤ 2 ∧ i = .int .i64 j ∧ Holds wr B #[.int .i64 a0, .int .i64 m0] 3 ∧ Gr [] w wr) (fun i _ => 2 - (intOf i).toNat)
  case atStart => exact ⟨0, by omega, rfl, X0, G0⟩
  case round =>
    clear X0 G0
    obtain ⟨j, hj, rfl, X, G⟩ := hrel
    by_cases hlt : j < 2
    · obtain ⟨k, hk⟩ : ∃ k : Int, wr.cell? ⟨B, j, none⟩ = some (.int .i64 k) := by
        rcases (show j = 0 ∨ j = 1 by omega) with rfl | rfl
        · exact ⟨a0, X.cell 0⟩
        · exact ⟨m0, X.cell 1⟩
      have HX := Lib.hid (And.intro X G)
      clear X G
      by_cases c : 0 ≤ k ∧ k ≤ 65536
      · obtain ⟨n, rfl⟩ := Int.eq_ofNat_of_zero_le c.1
        have hn : n ≤ 65536 := by omega
        have d1 : decide ((0 : Int) ≤ (n : Int)) = true := by simp
        have d2 : decide ((n : Int) ≤ (65536 : Int)) = true := by simp; omega
        clear c
        go_wp2_with fail
        refine (anew_yes n _ hn).mono ?_
        rintro e w1 ⟨ao, cap, l, rfl, hs, hc, g1⟩
        have ga := (Gr.refl [] w1).alloc (Obj.cells #[.int .i64 n, .slice ao l.length cap] 25)
        have Y := Holds.new w1 #[.int .i64 n, .slice ao l.length cap] 25
        have gg := g1.trans ga
        have H1 := Lib.hid (And.intro (hs.gr0 ga) (And.intro Y (And.intro (HX.out.1.gr0 gg) (HX.out.2.next0 gg))))
        have HSUM := Lib.hid (new_sum hs.runs hc)
        have HHAS := Lib.hid (show hasB l (n : Int) = false by rw [hasB_nat hs.runs, hc]; simp)
        have y0 : (w1.alloc (Obj.cells #[.int .i64 n, .slice ao l.length cap] 25)).cell? ⟨w1.heap.size, 0, none⟩ = some (.int .i64 n) := Y.cell 0
        have y1 : (w1.alloc (Obj.cells #[.int .i64 n, .slice ao l.length cap] 25)).cell? ⟨w1.heap.size, 1, none⟩ = some (.slice ao l.length cap) := Y.cell 1
        clear hs hc g1 ga Y gg hk
        go_wp2_with fail
        have hf := afree_any n l ao cap _ H1.out.1
        rw [HSUM.out] at hf
        refine hf.mono ?_
        rintro e w2 ⟨rfl, g2⟩
        clear hf y0 y1
        have y0 : w2.cell? ⟨w1.heap.size, 0, none⟩ = some (.int .i64 n) := (H1.out.2.1.gr0 g2).cell 0
        have y1 : w2.cell? ⟨w1.heap.size, 1, none⟩ = some (.slice ao l.length cap) := (H1.out.2.1.gr0 g2).cell 1
        have H2 := Lib.hid g2
        clear g2
        go_wp2_with fail
        refine (asize_any _ _ _).mono ?_
        rintro e w3 ⟨rfl, g3⟩
        clear y0 y1
        have g4 := H2.out.trans g3
        have y0 : w3.cell? ⟨w1.heap.size, 0, none⟩ = some (.int .i64 n) := (H1.out.2.1.gr0 g4).cell 0
        have y1 : w3.cell? ⟨w1.heap.size, 1, none⟩ = some (.slice ao l.length cap) := (H1.out.2.1.gr0 g4).cell 1
        have H3 := Lib.hid g4
        clear g3 g4 H2
        go_wp2_with fail
        have hf := ahas_any n l ao cap n _ (H1.out.1.gr0 H3.out)
        rw [HHAS.out] at hf
        refine hf.mono ?_
        rintro e w5 ⟨rfl, g5⟩
        have g6 := H3.out.trans g5
        have HE := Lib.hid (And.intro (H1.out.2.2.1.gr0 g6) (H1.out.2.2.2.next0 g6))
        clear hf y0 y1 g5 g6
        go_wp2
        go_roundw
        case rel => exact ⟨j + 1, by omega, by go_num, HE.out.1, HE.out.2⟩
        case measure => simp [intOf]; omega
      · have HN := Lib.hid (anew_no k)
        have hno : k < 0 ∨ 65536 < k := by omega
        have HNO := Lib.hid hno
        rcases hno with hc | hc
        · have d1 : decide ((0 : Int) ≤ k) = false := by simp; omega
          clear c
          go_wp2_with fail
          refine (HN.out _ HNO.out).mono ?_
          rintro e w1 ⟨rfl, g1⟩
          have ga := (Gr.refl [] w1).alloc (Obj.cells #[.int .i64 0, .slice none 0 0] 25)
          have gg := g1.trans ga
          have HE := Lib.hid (And.intro (HX.out.1.gr0 gg) (HX.out.2.next0 gg))
          clear g1 ga gg hk
          go_wp2
          go_roundw
          case rel => exact ⟨j + 1, by omega, by go_num, HE.out.1, HE.out.2⟩
          case measure => simp [intOf]; omega
        · have d1 : decide ((0 : Int) ≤ k) = true := by simp; omega
          have d2 : decide (k ≤ (65536 : Int)) = false := by simp; omega
          clear c
          go_wp2_with fail
          refine (HN.out _ HNO.out).mono ?_
          rintro e w1 ⟨rfl, g1⟩
          have ga := (Gr.refl [] w1).alloc (Obj.cells #[.int .i64 0, .slice none 0 0] 25)
          have gg := g1.trans ga
          have HE := Lib.hid (And.intro (HX.out.1.gr0 gg) (HX.out.2.next0 gg))
          clear g1 ga gg hk
          go_wp2
          go_roundw
          case rel => exact ⟨j + 1, by omega, by go_num, HE.out.1, HE.out.2⟩
          case measure => simp [intOf]; omega
    · obtain rfl : j = 2 := by omega
      have HG := Lib.hid G
      clear G X
      go_wp2_with fail
      refine (wakes14_any _).mono ?_
      rintro e w1 ⟨rfl, g1⟩
      have HE := Lib.hid (HG.out.next0 g1)
      clear g1
      go_wp2_with fail
      go_ret
      exact ⟨rfl, HE.out.below0⟩

end Go.Proofs.Ytpkhfdcokcchdaa
