/-
  Contracts of package desc: Count; and what layer 23's statements ask of the document's own numbers.
-/
import Derived.Test.YtpkhfdcokcchdaaDesD
namespace Go.Proofs.Ytpkhfdcokcchdaa
open Go.RowKit

def cntT (t : Nat → Int × Int × Int) (x : Int) (j : Nat) : Nat := ((List.range j).filter fun f => (t f).2.1 != 0 && (t f).1 == x).length
def cntD (D : Nat → Nat → Int × Int × Int) (x : Int) : Nat → Nat
  | 0 => 0
  | c + 1 => cntD D x c + cntT (D c) x 16
theorem cntT_succ (t : Nat → Int × Int × Int) (x : Int) (j : Nat) : cntT t x (j + 1) = if (t j).2.1 ≠ 0 ∧ (t j).1 = x then cntT t x j + 1 else cntT t x j := by
  unfold cntT
  rw [List.range_succ, List.filter_append]
  by_cases c : (t j).2.1 ≠ 0 ∧ (t j).1 = x
  · rw [if_pos c]
    simp [c.1, c.2]
  · rw [if_neg c]
    have : ((t j).2.1 != 0 && (t j).1 == x) = false := by
      rw [Bool.eq_false_iff]
      intro h
      simp at h
      exact c ⟨h.1, h.2⟩
    simp [this]
theorem cntT_le (t : Nat → Int × Int × Int) (x : Int) (j : Nat) : cntT t x j ≤ j := by
  have := List.length_filter_le (fun f => (t f).2.1 != 0 && (t f).1 == x) (List.range j)
  simpa [cntT] using this
theorem cntD_le (D : Nat → Nat → Int × Int × Int) (x : Int) (c : Nat) : cntD D x c ≤ c * 16 := by
  induction c with
  | zero => simp [cntD]
  | succ c ih => have := cntT_le (D c) x 16; simp only [cntD]; omega

theorem count_nil (x : Int) (w : World) :
    Calls Try.prog 70 #[.pointer none, .int .i64 x] w fun e w' => e = .returned (.int .i64 0) ∧ w = w' := by
  go_enter Try.func70, Try.ntmps70
  go_wp2_with fail
  refine (clients_nil _).mono ?_
  rintro e w' ⟨rfl, rfl⟩
  go_wp2_with fail
  refine wp_loop_rounds 1 ?_
  rw [rounds_succ]
  go_wp2_with fail
  go_ret
  exact ⟨rfl, rfl⟩

set_option maxRecDepth 20000 in
set_option maxHeartbeats 1000000 in
theorem count_any (bt br n : Nat) (x : Int) (D : Nat → Nat → Int × Int × Int) (w : World) (h : Tabs w bt br n D) :
    Calls Try.prog 70 #[.pointer (some ⟨bt, 0, none⟩), .int .i64 x] w fun e w' => e = .returned (.int .i64 (cntD D x n : Nat)) ∧ Gr [] w w' := by
  have HT := Lib.hid h
  have hn8 := h.hi
  clear h
  go_enter Try.func70, Try.ntmps70
  go_wp2_with fail
  refine (clients_any _ _ _ _ _ HT.out).mono ?_
  rintro e w' ⟨rfl, rfl⟩
  go_wp2_with fail
  go_loopw [5, 11] (fun s i wr => ∃ c : Nat, c ≤ n ∧ i = .int .i64 c ∧ s = .int .i64 (cntD D x c : Nat) ∧ Gr [] w wr) (fun _ i _ => n - (intOf i).toNat)
  case atStart => exact ⟨0, by omega, rfl, rfl, Gr.refl _ _⟩
  case round =>
    obtain ⟨c, hc, rfl, rfl, G1⟩ := hrel
    have hle := cntD_le D x c
    by_cases hlt : c < n
    · have T1 := HT.out.gr0 G1
      have t0 := T1.c0
      have HRng := Lib.hid (tab_rng T1 hlt)
      have HI := Lib.hid (fun j (hj : j < 16) (W : World) => tab_index (D c) j hj W)
      obtain ⟨S, hS⟩ : ∃ S, cntD D x c = S := ⟨_, rfl⟩
      have hsu : cntD D x (c + 1) = S + cntT (D c) x 16 := by rw [← hS]; rfl
      rw [hS] at hle
      have HSU := Lib.hid hsu
      clear T1 hsu
      have HS0 := Lib.hid hS
      rw [hS]
      clear hS
      have HG := Lib.hid G1
      clear G1
      go_wp2_with (refine wpList_load_mid rfl 176 _ rfl br (c * 48) rfl (tabL (D c)) _ HRng.out Try.underlying176 rfl (by rw [tabL_len]; exact sizTab) ?_)
      generalize (tabL (D c)).toArray = TB at *
      clear t0 HRng
      obtain ⟨wo, hwo⟩ : ∃ wo : World, wo = wr := ⟨_, rfl⟩
      rw [← hwo] at HG
      rw [← hwo]
      clear hwo
      go_loopw [5, 21] (fun s i wr => ∃ j : Nat, j ≤ 16 ∧ i = .int .i64 j ∧ s = .int .i64 ((S + cntT (D c) x j : Nat) : Int) ∧ Gr [] w wr) (fun _ i _ => 16 - (intOf i).toNat)
      case atStart => exact ⟨0, by omega, rfl, rfl, HG.out⟩
      case round =>
        clear HG
        obtain ⟨j, hj, rfl, rfl, G1⟩ := hrel
        have htl := cntT_le (D c) x j
        by_cases hlt2 : j < 16
        · have hix := HI.out j (by omega)
          have hsuc := cntT_succ (D c) x j
          obtain ⟨K, hK⟩ : ∃ K, cntT (D c) x j = K := ⟨_, rfl⟩
          rw [hK] at hsuc htl
          rw [hK]
          clear hK
          have HG := Lib.hid (G1.alloc (Obj.cells #[.int .i64 (D c j).1, .int .i64 (D c j).2.1, .int .i64 (D c j).2.2] 122))
          clear G1
          by_cases hne : (D c j).2.1 = 0
          · rw [if_neg (by simp [hne])] at hsuc
            have HN := Lib.hid hsuc
            clear hsuc
            have hd : ((D c j).2.1 != 0) = false := by simpa using hne
            clear hne
            generalize D c j = v at *
            go_wp2
            go_roundw
            case rel => exact ⟨j + 1, by omega, by go_num, by rw [HN.out], HG.out⟩
            case measure => simp [intOf]; omega
          · have hd : ((D c j).2.1 != 0) = true := by simpa using hne
            by_cases hx : (D c j).1 = x
            · rw [if_pos ⟨hne, hx⟩] at hsuc
              have HN := Lib.hid hsuc
              clear hsuc hne
              have hd2 : ((D c j).1 == x) = true := by simpa using hx
              clear hx
              generalize D c j = v at *
              go_wp2
              go_roundw
              case rel => exact ⟨j + 1, by omega, by go_num, by rw [HN.out]; go_num, HG.out⟩
              case measure => simp [intOf]; omega
            · rw [if_neg (fun q => hx q.2)] at hsuc
              have HN := Lib.hid hsuc
              clear hsuc hne
              have hd2 : ((D c j).1 == x) = false := by simpa using hx
              clear hx
              generalize D c j = v at *
              go_wp2
              go_roundw
              case rel => exact ⟨j + 1, by omega, by go_num, by rw [HN.out], HG.out⟩
              case measure => simp [intOf]; omega
        · obtain rfl : j = 16 := by omega
          have HG := Lib.hid G1
          clear G1
          go_wp2
          go_roundw
          case rel => exact ⟨c + 1, by omega, by go_num, by rw [HSU.out], HG.out⟩
          case measure => simp [intOf]; omega
    · obtain rfl : c = n := by omega
      have HG := Lib.hid G1
      clear G1
      go_wp2_with fail
      go_ret
      exact ⟨rfl, HG.out⟩

set_option maxRecDepth 20000 in
set_option maxHeartbeats 2000000 in
theorem wakes23_any (w : World) :
    Calls Try.prog 60 #[] w fun e w' => e = .returned (.bool true) ∧ Gr [] w w' := by
  go_enter Try.func60, Try.ntmps60
  go_wp2_with fail
  refine (dnew_yes 2 _ (by omega) (by omega)).mono ?_
  rintro e w1 ⟨bt, br, rfl, T1, hbt, hbr, G1⟩
  go_wp2_with fail
  refine (add_ok bt br 2 1 0 9 1 _ _ T1 (by omega) (by omega) (by omega) (by omega) rfl (fun g hg => by omega)).mono ?_
  rintro e w2 ⟨rfl, T2, G2⟩
  replace G1 := G1.nextN G2 (fun x hx => by simp at hx; subst hx; exact .inr hbr)
  clear T1 G2
  go_wp2_with fail
  refine (add_ok bt br 2 1 1 9 3 _ _ T2 (by omega) (by omega) (by omega) (by omega) rfl (fun g hg => by have e : g = 0 := (by omega); subst e; decide)).mono ?_
  rintro e w3 ⟨rfl, T3, G3⟩
  replace G1 := G1.nextN G3 (fun x hx => by simp at hx; subst hx; exact .inr hbr)
  clear T2 G3
  go_wp2_with fail
  refine (close_ok bt br 2 1 0 _ _ T3 (by omega) (by omega) (by decide)).mono ?_
  rintro e w4 ⟨rfl, T4, G4⟩
  rw [show (updD (updD noneD 1 0 (9, 1, 0)) 1 1 (9, 3, 0) 1 0).1 = 9 by decide]
  replace G1 := G1.nextN G4 (fun x hx => by simp at hx; subst hx; exact .inr hbr)
  clear T3 G4
  go_wp2_with fail
  refine (add_ok bt br 2 1 0 8 2 _ _ T4 (by omega) (by omega) (by omega) (by omega) rfl (fun g hg => by omega)).mono ?_
  rintro e w5 ⟨rfl, T5, G5⟩
  replace G1 := G1.nextN G5 (fun x hx => by simp at hx; subst hx; exact .inr hbr)
  clear T4 G5
  go_wp2_with fail
  refine (count_any bt br 2 9 _ _ T5).mono ?_
  rintro e w6 ⟨rfl, G6⟩
  rw [show cntD (updD (updD (updD (updD noneD 1 0 (9, 1, 0)) 1 1 (9, 3, 0)) 1 0 (0, 0, 0)) 1 0 (8, 2, 0)) 9 2 = 1 by decide]
  have HG := Lib.hid (G1.next0 G6)
  clear G1 G6 T5
  go_wp2_with fail
  go_ret
  exact ⟨rfl, HG.out⟩

end Go.Proofs.Ytpkhfdcokcchdaa
