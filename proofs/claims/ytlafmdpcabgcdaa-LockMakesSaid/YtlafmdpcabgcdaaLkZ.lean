/-
  Layer 24: LockMakes.
-/
import Derived.Test.YtlafmdpcabgcdaaLkY
namespace Go.Proofs.Ytlafmdpcabgcdaa
open Go.RowKit

set_option maxRecDepth 100000 in
set_option maxHeartbeats 8000000 in
theorem makes24 (K c : Int) (w : World) : Calls Try.prog 4 #[.int .i64 K, .int .i64 c] w fun e w' => e = .returned (.bool true) ∧ Gr [] w w' := by
  have hmx := max0 Try.prog
  have hn0 := mx_nonneg K
  go_enter Try.func4, Try.ntmps4
  go_wp2_with fail
  generalize mx K % 12 = q at *
  generalize mx K = mk at *
  clear hmx hn0
  have HW0 := Lib.hid (Holds.new w #[.int .i64 K, .int .i64 q] 3)
  have HG0 := Lib.hid ((Gr.refl [] w).alloc (Obj.cells #[.int .i64 K, .int .i64 q] 3))
  generalize w.alloc (Obj.cells #[Value.int .i64 K, .int .i64 q] 3) = w0 at *
  go_loopw [21] (fun i wr => ∃ k : Nat, k ≤ 2 ∧ i = .int .i64 k ∧ Gr [] w0 wr) (fun i _ => 2 - (intOf i).toNat)
  case atStart => exact ⟨0, by omega, rfl, Gr.refl _ _⟩
  case round =>
    obtain ⟨k, hk, rfl, g⟩ := hrel
    have HG := Lib.hid g
    by_cases hlt : k < 2
    · have ik : (k : Int) < 2 := by omega
      obtain ⟨x, hx⟩ : ∃ x, wr.cell? ⟨w.heap.size, k, none⟩ = some (.int .i64 x) := by
        have h0 := HW0.out.gr0 g
        rcases (show k = 0 ∨ k = 1 by omega) with rfl | rfl
        · exact ⟨K, h0.cell 0⟩
        · exact ⟨q, h0.cell 1⟩
      clear g
      by_cases hbad : x < 1 ∨ 8 < x
      · have HB := Lib.hid (new_no x wr hbad)
        by_cases h1 : x < 1
        · have i1 : ¬ (1 ≤ x) := by omega
          clear hbad
          go_wp2_with (go_at_call 6; refine HB.out.mono ?_; rintro e w1 ⟨rfl, hw⟩; rw [hw])
          go_roundw
          case rel => exact ⟨k + 1, by omega, by go_num, HG.out⟩
          case measure => simp [intOf]; omega
        · have i1 : 1 ≤ x := by omega
          have i8 : ¬ (x ≤ 8) := by omega
          clear hbad
          go_wp2_with (go_at_call 6; refine HB.out.mono ?_; rintro e w1 ⟨rfl, hw⟩; rw [hw])
          go_roundw
          case rel => exact ⟨k + 1, by omega, by go_num, HG.out⟩
          case measure => simp [intOf]; omega
      · obtain ⟨n, rfl⟩ : ∃ n : Nat, x = (n : Int) := ⟨x.toNat, by omega⟩
        have i1 : 1 ≤ (n : Int) := by omega
        have i8 : (n : Int) ≤ 8 := by omega
        have HB := Lib.hid (new_ok n wr (by omega) (by omega))
        clear hbad
        by_cases hin : 0 ≤ c ∧ c < (n : Int)
        · obtain ⟨ic0, icn⟩ := hin
          go_wp2_with (go_at_call 6; refine HB.out.mono ?_; rintro e w1 ⟨a, rfl, h1, g1, hb1⟩; have H1 := Lib.hid (And.intro h1 (And.intro g1 hb1)); clear h1 g1 hb1)
          go_roundw
          case rel => exact ⟨k + 1, by omega, by go_num, HG.out.next0 H1.out.2.1⟩
          case measure => simp [intOf]; omega
        · have hE : chkE n c = 2 := by unfold chkE; rw [if_neg hin]
          have HE := Lib.hid hE
          clear hE
          rcases (show c < 0 ∨ (0 ≤ c ∧ (n : Int) ≤ c) by omega) with ic | ⟨ic0, icn⟩
          all_goals
            clear hin
            go_wp2_with (first
              | (go_at_call 6; refine HB.out.mono ?_; rintro e w1 ⟨a, rfl, h1, g1, hb1⟩; have H1 := Lib.hid (And.intro h1 (And.intro g1 hb1)); clear h1 g1 hb1)
              | (go_at_call 12; refine (step_out a n 0 _ _ c _ H1.out.1 HE.out).mono ?_; rintro e w2 ⟨rfl, hw⟩; rw [hw])
              | (go_at_call 8; refine (ask_out a n 0 _ _ c _ _ (H1.out.1.gr0 ((Gr.refl [] w1).alloc _)) HE.out).mono ?_; rintro e w2 ⟨rfl, hw⟩; rw [hw])
              | (go_at_call 10; refine (drop_out a n 0 _ _ c _ (H1.out.1.gr0 ((Gr.refl [] w1).alloc (Obj.cells #[.int .i64 1] 3))) HE.out).mono ?_; rintro e w3 ⟨rfl, g3⟩; have H3 := Lib.hid (And.intro (H1.out.1.gr0 (((Gr.refl [] w1).alloc (Obj.cells #[.int .i64 1] 3)).next0 g3)) (HG.out.next0 (H1.out.2.1.next0 (((Gr.refl [] w1).alloc (Obj.cells #[.int .i64 1] 3)).next0 g3)))); clear g3)
              | (go_at_call 15; refine (has_out a n 0 _ _ c _ H3.out.1 HE.out).mono ?_; rintro e w2 ⟨rfl, hw⟩; rw [hw])
              | (go_at_call 17; refine (waits_out a n 0 _ _ c _ H3.out.1 HE.out).mono ?_; rintro e w2 ⟨rfl, hw⟩; rw [hw]))
            go_roundw
            case rel => exact ⟨k + 1, by omega, by go_num, H3.out.2⟩
            case measure => simp [intOf]; omega
    · obtain rfl : k = 2 := by omega
      clear g
      go_wp2_with (first
        | (go_at_call 12; refine (step_nil _ _).mono ?_; rintro e w2 ⟨rfl, hw⟩; rw [hw])
        | (go_at_call 7; refine (wakes24 _).mono ?_; rintro e w2 ⟨rfl, g2⟩; have H2 := Lib.hid g2; clear g2)
        | (go_at_call 8; refine (ask_nil _ _ _).mono ?_; rintro e w3 ⟨rfl, hw⟩; rw [hw])
        | (go_at_call 10; refine (drop_nil _ _).mono ?_; rintro e w4 ⟨rfl, g4⟩; have H4 := Lib.hid g4; clear g4)
        | (go_at_call 15; refine (has_nil _ _).mono ?_; rintro e w3 ⟨rfl, hw⟩; rw [hw])
        | (go_at_call 17; refine (waits_nil _ _).mono ?_; rintro e w3 ⟨rfl, hw⟩; rw [hw]))
      go_ret
      exact ⟨rfl, HG0.out.next0 (HG.out.next0 ((H2.out.alloc _).next0 H4.out))⟩
theorem walk_LockMakes (K c : Int) (_ : (Lit.int .i64 K).wf = true) (_ : (Lit.int .i64 c).wf = true) (w : World) : Calls Try.prog 4 #[.int .i64 K, .int .i64 c] w fun e w' => e = .returned (.bool true) ∧ Below w.heap.size w w' :=
  (makes24 K c w).mono fun _ _ ⟨h, g⟩ => ⟨h, g.below0⟩
end Go.Proofs.Ytlafmdpcabgcdaa
