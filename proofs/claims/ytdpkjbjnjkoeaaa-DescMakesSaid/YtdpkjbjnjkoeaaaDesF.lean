/-
  The walk of DescMakes.
-/
import Derived.Test.YtdpkjbjnjkoeaaaDesE
namespace Go.Proofs.Ytdpkjbjnjkoeaaa
open Go.RowKit

set_option maxRecDepth 100000 in
set_option maxHeartbeats 4000000 in
theorem walk_DescMakes (a0 a1 : Int) (w0 : (Lit.int .i64 a0).wf = true) (_w1 : (Lit.int .i64 a1).wf = true) (w : World) :
    Calls Try.prog 6 #[.int .i64 a0, .int .i64 a1] w fun e w' => e = .returned (.bool true) ∧ Below w.heap.size w w' := by
  have hb0 := bounds_i64 w0
  clear w0
  have hm0 := max0 Try.prog
  have x0 := mx_nonneg a0
  obtain ⟨n2, hn2, hn22⟩ : ∃ n : Nat, mx a0 % 12 = (n : Int) ∧ n < 12 := ⟨(mx a0 % 12).toNat, by omega, by omega⟩
  go_enter Try.func6, Try.ntmps6
  go_wp2_with fail
  try rw [hn2]
  clear hn2
  have S1 := Holds.new w #[.int .i64 a0, .int .i64 n2] 3
  have G1 := (Gr.refl [] w).alloc (Obj.cells #[.int .i64 a0, .int .i64 n2] 3)
  generalize w.alloc (Obj.cells #[.int .i64 a0, .int .i64 n2] 3) = wa at *
  go_loopw [23] (fun i wr => ∃ c : Nat, c ≤ 2 ∧ i = .int .i64 c ∧ Holds wr w.heap.size #[.int .i64 a0, .int .i64 n2] 3 ∧ Gr [] w wr) (fun i _ => 2 - (intOf i).toNat)
  case atStart => exact ⟨0, by omega, rfl, S1, G1⟩
  case round =>
    clear S1 G1
    obtain ⟨c, hc, rfl, S1, G1⟩ := hrel
    by_cases hlt : c < 2
    · obtain ⟨v, hv⟩ : ∃ v : Int, wr.cell? ⟨w.heap.size, c, none⟩ = some (.int .i64 v) := by
        have : c = 0 ∨ c = 1 := by omega
        rcases this with rfl | rfl
        · exact ⟨a0, S1.cell 0⟩
        · exact ⟨n2, S1.cell 1⟩
      have HSG := Lib.hid (And.intro S1 G1)
      clear S1 G1
      by_cases hbad : v < 1 ∨ 8 < v
      · have HNo := Lib.hid (fun w => dnew_no v w hbad)
        have hd : (decide (1 ≤ v) && decide (v ≤ 8)) = false := by
          rw [Bool.eq_false_iff]
          intro h
          simp at h
          omega
        rcases hbad with hbad | hbad
        · have hd1 : decide (1 ≤ v) = false := by simp; omega
          clear hd
          go_wp2_with fail
          refine (HNo.out _).mono ?_
          rintro e w1 ⟨rfl, rfl⟩
          go_wp2
          go_roundw
          case rel => exact ⟨c + 1, by omega, by go_num, HSG.out.1, HSG.out.2⟩
          case measure => simp [intOf]; omega
        · have hd1 : decide (1 ≤ v) = true := by simp; omega
          have hd2 : decide (v ≤ 8) = false := by simp; omega
          clear hd
          go_wp2_with fail
          refine (HNo.out _).mono ?_
          rintro e w1 ⟨rfl, rfl⟩
          go_wp2
          go_roundw
          case rel => exact ⟨c + 1, by omega, by go_num, HSG.out.1, HSG.out.2⟩
          case measure => simp [intOf]; omega
      · obtain ⟨n, rfl⟩ := Int.eq_ofNat_of_zero_le (show 0 ≤ v by omega)
        have n1 : 1 ≤ n := by omega
        have n8 : n ≤ 8 := by omega
        have HN := Lib.hid (fun w => dnew_yes n w n1 n8)
        clear hbad
        go_wp2_with fail
        refine (HN.out _).mono ?_
        rintro e w1 ⟨bt, br, rfl, T1, -, -, G2⟩
        have RR := Lib.hid (And.intro (HSG.out.1.gr0 G2) (HSG.out.2.next0 G2))
        clear HSG G2 hv HN
        go_wp2_with fail
        refine (clients_any bt br n _ _ T1).mono ?_
        rintro e w1 ⟨rfl, rfl⟩
        clear T1
        go_wp2
        go_roundw
        case rel => exact ⟨c + 1, by omega, by go_num, RR.out.1, RR.out.2⟩
        case measure => simp [intOf]; omega
    · have HG := Lib.hid G1
      clear S1 G1
      go_wp2_with fail
      refine (add_nil _ _ _ _).mono ?_
      rintro e w1 ⟨rfl, rfl⟩
      go_wp2_with fail
      refine (get_nil 0 a1 _).mono ?_
      rintro e w2 ⟨rfl, g2⟩
      have HG2 := Lib.hid ((HG.out.next0 g2).alloc (Obj.cells #[.int .i64 0, .int .i64 0, .int .i64 0] 53))
      clear g2 HG
      go_wp2_with fail
      generalize w2.alloc (Obj.cells #[.int .i64 0, .int .i64 0, .int .i64 0] 53) = w3 at *
      refine (close_err _ _ _ 1 _ (by omega) (get_nil 0 a1 _)).mono ?_
      rintro e w4 ⟨rfl, g4⟩
      have HG4 := Lib.hid (HG2.out.next0 g4)
      clear g4 HG2
      go_wp2_with fail
      refine (wakes23_any _).mono ?_
      rintro e w5 ⟨rfl, g5⟩
      have HG5 := Lib.hid (HG4.out.next0 g5)
      clear g5 HG4
      go_wp2_with fail
      refine (seek_err _ _ _ _ 1 _ (by omega) (get_nil 0 a1 _)).mono ?_
      rintro e w6 ⟨rfl, g6⟩
      have HG6 := Lib.hid (HG5.out.next0 g6)
      clear g6 HG5
      go_wp2_with fail
      refine (clients_nil _).mono ?_
      rintro e w7 ⟨rfl, rfl⟩
      go_wp2_with fail
      refine (count_nil _ _).mono ?_
      rintro e w7 ⟨rfl, rfl⟩
      go_wp2_with fail
      refine (list_nil _ _).mono ?_
      rintro e w7 ⟨rfl, rfl⟩
      go_wp2_with fail
      go_ret
      exact ⟨rfl, HG6.out.below0⟩

end Go.Proofs.Ytdpkjbjnjkoeaaa
