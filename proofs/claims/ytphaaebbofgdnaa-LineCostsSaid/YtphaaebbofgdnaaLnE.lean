/-
  LineNone.
-/
import Derived.Test.YtphaaebbofgdnaaLnD
namespace Go.Proofs.Ytphaaebbofgdnaa
open Go.RowKit

theorem full_max (s : ByteArray) : (fullS s).size ≤ maxLen := by rw [fullS_size]; unfold maxLen; omega
theorem out_line {n : Nat} {z : Int} (D : DevS) (hn : D.n = n) (h : ¬ (0 ≤ z ∧ z < n)) : isLine D z = false := by unfold isLine; rw [hn, decide_eq_false h]
set_option maxRecDepth 20000 in
set_option maxHeartbeats 4000000 in
theorem none_law (z k : Int) (s : ByteArray) (w : World) (hz : -9223372036854775808 ≤ z ∧ z ≤ 9223372036854775807) (hk : -9223372036854775808 ≤ k ∧ k ≤ 9223372036854775807) (hs : s.size ≤ maxLen) (hs2 : s.size ≤ 4611686018427387904) :
    Calls Try.prog 8 #[.int .i64 z, .int .i64 k, .string s] w fun e w' => e = .returned (.bool true) ∧ Gr [] w w' := by
  have HF0 := Lib.hid (fun W => full_any ⟨#[]⟩ W (by show 0 ≤ _; omega))
  have HF := Lib.hid (fun W => full_any s W hs2)
  have HTN := Lib.hid (fun W => took_nil z (fullS ⟨#[]⟩) W (full_max _))
  clear hs hs2
  go_enter Try.func8, Try.ntmps8
  go_wp2_with fail
  refine (pmnew_yes 2 _ (by omega) (by omega)).mono ?_
  rintro e w1 ⟨a, rfl, d1, hlo, g1⟩
  have HN := Lib.hid (show ∀ (wa wb : World), Gr [] w wa → Gr a.all wa wb → Gr [] w wb from fun wa wb p q => p.nextN q fun x hx => .inr (hlo x hx))
  clear hlo
  have HD := Lib.hid (And.intro d1 g1)
  clear d1 g1
  go_wp2_with fail
  refine (get_nil z _).mono ?_
  rintro e w' ⟨rfl, rfl⟩
  go_wp2_with fail
  refine (wakes04 _).mono ?_
  rintro e w2 ⟨rfl, q2⟩
  have HD := Lib.hid (And.intro (HD.out.1.gr0 q2) (HD.out.2.next0 q2))
  clear q2
  go_wp2_with fail
  refine (put_nil z s _).mono ?_
  rintro e w' ⟨rfl, rfl⟩
  go_wp2_with fail
  refine (putword_nil z k 1 _).mono ?_
  rintro e w' ⟨rfl, rfl⟩
  go_wp2_with fail
  refine (HF0.out _).mono ?_
  rintro e w3 ⟨rfl, q3⟩
  have HD := Lib.hid (And.intro (HD.out.1.gr0 q3) (HD.out.2.next0 q3))
  clear q3
  go_wp2_with fail
  refine (HTN.out _).mono ?_
  rintro e w4 ⟨rfl, q4⟩
  have HD := Lib.hid (And.intro (HD.out.1.gr0 q4) (HD.out.2.next0 q4))
  clear q4 HTN
  by_cases hin : 0 ≤ z ∧ z < 2
  · have hd1 : decide ((0 : Int) ≤ z) = true := by simpa using hin.1
    have hd2 : decide (z < (2 : Int)) = true := by simpa using hin.2
    go_wp2_with fail
    go_ret
    exact ⟨rfl, HD.out.2⟩
  · have hl : ∀ D : DevS, D.n = 2 → isLine D z = false := fun D hn => out_line D hn hin
    have hr : reachE (newD 2) (isLine (newD 2) z) = 3 := by rw [hl (newD 2) rfl]; rfl
    have HG := Lib.hid (get_err a (newD 2) z w4 HD.out.1 (by rw [hr]; omega))
    rw [hr] at HG
    have HPW := Lib.hid (putword_any a (newD 2) z k 1 0 w4 HD.out.1 ⟨Nat.le_refl _, fun l => ⟨Int.le_refl _, Int.le_refl _⟩⟩ (by omega) (by omega))
    have HT := Lib.hid (fun W (d : DevIs W a (newD 2)) => took_any a (newD 2) z (fullS ⟨#[]⟩) W d (full_max _))
    rw [show tookB (newD 2) z (fullS ⟨#[]⟩) = false by unfold tookB; rw [hl (newD 2) rfl]; simp] at HT
    have HP := Lib.hid (fun W (d : DevIs W a (newD 2)) => lput_any a (newD 2) z (fullS s) 0 W d ⟨Nat.le_refl _, fun l => ⟨Int.le_refl _, Int.le_refl _⟩⟩ (by omega) (full_max _))
    rw [show putE (newD 2) z (fullS s) = (3, newD 2) by unfold putE; rw [if_neg (by simp [fullS_size]), hl (newD 2) rfl]; rfl] at HP
    have HL := Lib.hid (hl (newD 2) rfl)
    clear hl hr
    have hds : (decide ((0 : Int) ≤ z) = false) ∨ (decide ((0 : Int) ≤ z) = true ∧ decide (z < (2 : Int)) = false) := by
      by_cases h0 : 0 ≤ z
      · exact .inr ⟨by simpa using h0, by simp; omega⟩
      · exact .inl (by simpa using h0)
    have hks : (pwE (newD 2) z k 1 = (2, newD 2) ∧ decide (k < 0) = true ∧ decide ((0 : Int) ≤ k) = false) ∨ (pwE (newD 2) z k 1 = (2, newD 2) ∧ decide (k < 0) = false ∧ decide ((7 : Int) < k) = true ∧ decide ((0 : Int) ≤ k) = true ∧ decide (k ≤ (7 : Int)) = false) ∨ (pwE (newD 2) z k 1 = (3, newD 2) ∧ decide (k < 0) = false ∧ decide ((7 : Int) < k) = false ∧ decide ((0 : Int) ≤ k) = true ∧ decide (k ≤ (7 : Int)) = true) := by
      unfold pwE
      by_cases h0 : k < 0
      · exact .inl ⟨if_pos (.inl h0), by simpa using h0, by simp; omega⟩
      · by_cases h7 : 7 < k
        · exact .inr (.inl ⟨if_pos (.inr h7), by simpa using h0, by simpa using h7, by simp; omega, by simp; omega⟩)
        · refine .inr (.inr ⟨?_, by simpa using h0, by simpa using h7, by simp; omega, by simp; omega⟩)
          rw [if_neg (by omega), HL.out]
          rfl
    clear hin HL
    rcases hds with hd1 | ⟨hd1, hd2⟩
    all_goals
      rcases hks with ⟨hp, hk1, hk2⟩ | ⟨hp, hk1, hk2, hk3, hk4⟩ | ⟨hp, hk1, hk2, hk3, hk4⟩
      all_goals
        rw [hp] at HPW
        clear hp
        go_wp2_with fail
        refine HG.out.mono ?_
        rintro e w' ⟨rfl, rfl⟩
        go_wp2_with fail
        refine HPW.out.mono ?_
        rintro e w5 ⟨rfl, d5, _, q5⟩
        have HE := Lib.hid (And.intro d5 (HN.out _ _ HD.out.2 q5))
        clear d5 q5
        go_wp2_with fail
        refine (HF.out _).mono ?_
        rintro e w6 ⟨rfl, q6⟩
        have HE := Lib.hid (And.intro (HE.out.1.gr0 q6) (HE.out.2.next0 q6))
        clear q6
        go_wp2_with fail
        refine (HP.out _ HE.out.1).mono ?_
        rintro e w7 ⟨rfl, d7, _, q7⟩
        have HE := Lib.hid (And.intro d7 (HN.out _ _ HE.out.2 q7))
        clear d7 q7
        go_wp2_with fail
        refine (HF0.out _).mono ?_
        rintro e w8 ⟨rfl, q8⟩
        have HE := Lib.hid (And.intro (HE.out.1.gr0 q8) (HE.out.2.next0 q8))
        clear q8
        go_wp2_with fail
        refine (HT.out _ HE.out.1).mono ?_
        rintro e w9 ⟨rfl, q9⟩
        have HE := Lib.hid (HE.out.2.next0 q9)
        clear q9
        go_wp2_with fail
        go_ret
        exact ⟨rfl, HE.out⟩
theorem walk_LineNone (a0 a1 : Int) (a2 : ByteArray) (w0 : (Lit.int .i64 a0).wf = true) (w1 : (Lit.int .i64 a1).wf = true) (w2 : a2.size ≤ maxLen) (x2 : a2.size ≤ reachBytes) (w : World) :
    Calls Try.prog 8 #[.int .i64 a0, .int .i64 a1, .string a2] w fun e w' => e = .returned (.bool true) ∧ Below w.heap.size w w' :=
  (none_law a0 a1 a2 w (bounds_i64 w0) (bounds_i64 w1) w2 (Nat.le_trans x2 (by decide))).mono fun _ _ q => ⟨q.1, q.2.below0⟩

end Go.Proofs.Ytphaaebbofgdnaa
