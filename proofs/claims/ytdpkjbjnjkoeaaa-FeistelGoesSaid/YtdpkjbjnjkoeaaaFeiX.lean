/-
  The document's own answer for layer 8: contracts of the reference's functions.
-/
import Derived.Test.YtdpkjbjnjkoeaaaFeiL
namespace Go.Proofs.Ytdpkjbjnjkoeaaa
open Go.RowKit

theorem xor_lo (a b s : Nat) : (a ^^^ b) % 2 ^ (s + 1) = (a ^^^ b) % 2 ^ s + (if a / 2 ^ s % 2 = b / 2 ^ s % 2 then 0 else 2 ^ s) := by
  have e : (a ^^^ b) / 2 ^ s % 2 = if a / 2 ^ s % 2 = b / 2 ^ s % 2 then 0 else 1 := by
    rw [Nat.xor_div_two_pow]
    have h := @Nat.xor_mod_two_eq_one (a / 2 ^ s) (b / 2 ^ s)
    have p := Nat.mod_two_eq_zero_or_one (a / 2 ^ s)
    have q := Nat.mod_two_eq_zero_or_one (b / 2 ^ s)
    have r := Nat.mod_two_eq_zero_or_one (a / 2 ^ s ^^^ b / 2 ^ s)
    by_cases c : a / 2 ^ s % 2 = b / 2 ^ s % 2
    · rw [if_pos c]
      rcases r with r | r
      · exact r
      · exact absurd (by rw [c]) (h.1 r)
    · rw [if_neg c]
      apply h.2
      intro k
      apply c
      rcases p with p | p <;> rcases q with q | q <;> simp_all
  rw [Nat.pow_succ, Nat.mod_mul, e]
  split <;> simp

set_option maxHeartbeats 1000000 in
theorem rxor (a b : Nat) (w : World) (ha : a < 65536) (hb : b < 65536) :
    Calls Try.prog 69 #[.int .i64 a, .int .i64 b] w fun e w' => e = .returned (.int .i64 ((a ^^^ b : Nat) : Int)) ∧ w = w' := by
  have hX : a ^^^ b < 2 ^ 16 := Nat.xor_lt_two_pow ha hb
  have HL := Lib.hid (fun s => xor_lo a b s)
  obtain ⟨X, hXe⟩ : ∃ X, a ^^^ b = X := ⟨_, rfl⟩
  have HX := Lib.hid hXe
  rw [hXe] at hX HL
  clear hXe
  go_enter Try.func69, Try.ntmps69
  go_wp2_with fail
  have h0 : X % 2 ^ 0 = 0 := Nat.mod_one X
  go_loopg [0, 1, 5, 6] 16 (fun g x y n m wr => ∃ (s A B N M : Nat), g + s = 16 ∧ A = a / 2 ^ s ∧ B = b / 2 ^ s ∧ N = X % 2 ^ s ∧ M = 2 ^ s ∧ x = .int .i64 A ∧ y = .int .i64 B ∧ n = .int .i64 N ∧ m = .int .i64 M ∧ w = wr)
  case atStart => exact ⟨0, a, b, 0, 1, by omega, by simp, by simp, h0.symm, rfl, rfl, rfl, rfl, rfl, rfl⟩
  case round =>
    obtain ⟨s, A, B, N, M, hs, hA, hB, hN, hM, rfl, rfl, rfl, rfl, rfl⟩ := hrel
    clear h0
    have l1 := HL.out s
    have p16 : 2 ^ s ≤ 2 ^ 16 := Nat.pow_le_pow_right (by omega) (by omega)
    have a1 : a / 2 ^ (s + 1) = A / 2 := by rw [Nat.pow_succ, ← Nat.div_div_eq_div_mul, ← hA]
    have b1 : b / 2 ^ (s + 1) = B / 2 := by rw [Nat.pow_succ, ← Nat.div_div_eq_div_mul, ← hB]
    have m1 : 2 ^ (s + 1) = 2 * M := by rw [Nat.pow_succ, hM]; omega
    rw [← hA, ← hB, ← hN, ← hM] at l1
    have hA16 : A ≤ a := by rw [hA]; exact Nat.div_le_self _ _
    have hB16 : B ≤ b := by rw [hB]; exact Nat.div_le_self _ _
    have hN16 : N < 65536 := by rw [hN]; exact Nat.lt_of_le_of_lt (Nat.mod_le _ _) hX
    have hM16 : M ≤ 65536 := by rw [hM]; exact p16
    by_cases z : A = 0 ∧ B = 0
    · obtain ⟨zA, zB⟩ := z
      have hfin : N = X := by
        have h1 : a < 2 ^ s := by
          rcases Nat.lt_or_ge a (2 ^ s) with h | h
          · exact h
          · have := Nat.div_pos h (Nat.two_pow_pos s); omega
        have h2 : b < 2 ^ s := by
          rcases Nat.lt_or_ge b (2 ^ s) with h | h
          · exact h
          · have := Nat.div_pos h (Nat.two_pow_pos s); omega
        have h3 := Nat.xor_lt_two_pow h1 h2
        rw [HX.out] at h3
        rw [hN, Nat.mod_eq_of_lt h3]
      clear hA hB hN hM l1 a1 b1 m1 p16 hA16 hB16 hX
      subst zA
      subst zB
      have HF := Lib.hid hfin
      clear hfin
      go_wp2_with fail
      go_ret
      exact ⟨by rw [HX.out, ← HF.out]; rfl, rfl⟩
    · have hgk : 1 ≤ gk := by
        rcases Nat.lt_or_ge gk 1 with h | h
        · obtain rfl : s = 16 := by omega
          exfalso
          apply z
          constructor
          · rw [hA]; exact Nat.div_eq_of_lt ha
          · rw [hB]; exact Nat.div_eq_of_lt hb
        · exact h
      have HZ := Lib.hid (And.intro hs (And.intro a1 (And.intro b1 m1)))
      clear hs a1 b1 m1 hA hB hN hM p16
      by_cases c : A % 2 = B % 2
      · rw [if_pos c] at l1
        have HC := Lib.hid l1
        clear l1
        have c' : ((A : Int) % 2 == (B : Int) % 2) = true := by simp; omega
        have c'' : ((A : Int) % 2 != (B : Int) % 2) = false := by simp; omega
        by_cases zA : 0 < A
        · have HC2 := Lib.hid c
          clear c
          go_wp2_with fail
          go_roundg (gk - 1)
          case measure => omega
          case rel => exact ⟨s + 1, A / 2, B / 2, N, 2 * M, by have := HZ.out.1; omega, HZ.out.2.1.symm, HZ.out.2.2.1.symm, by rw [HC.out]; omega, HZ.out.2.2.2.symm, by go_num, by go_num, rfl, by go_num, rfl⟩
        · have zA' : A = 0 := by omega
          have zB : 0 < B := by omega
          subst zA'
          have HC2 := Lib.hid c
          clear c
          go_wp2_with fail
          go_roundg (gk - 1)
          case measure => omega
          case rel => exact ⟨s + 1, 0 / 2, B / 2, N, 2 * M, by have := HZ.out.1; omega, HZ.out.2.1.symm, HZ.out.2.2.1.symm, by rw [HC.out]; omega, HZ.out.2.2.2.symm, by go_num, by go_num, rfl, by go_num, rfl⟩
      · rw [if_neg c] at l1
        have HC := Lib.hid l1
        clear l1
        have c' : ((A : Int) % 2 == (B : Int) % 2) = false := by simp; omega
        have c'' : ((A : Int) % 2 != (B : Int) % 2) = true := by simp; omega
        by_cases zA : 0 < A
        · have HC2 := Lib.hid c
          clear c
          go_wp2_with fail
          go_roundg (gk - 1)
          case measure => omega
          case rel => exact ⟨s + 1, A / 2, B / 2, N + M, 2 * M, by have := HZ.out.1; omega, HZ.out.2.1.symm, HZ.out.2.2.1.symm, HC.out.symm, HZ.out.2.2.2.symm, by go_num, by go_num, by go_num, by go_num, rfl⟩
        · have zA' : A = 0 := by omega
          have zB : 0 < B := by omega
          subst zA'
          have HC2 := Lib.hid c
          clear c
          go_wp2_with fail
          go_roundg (gk - 1)
          case measure => omega
          case rel => exact ⟨s + 1, 0 / 2, B / 2, N + M, 2 * M, by have := HZ.out.1; omega, HZ.out.2.1.symm, HZ.out.2.2.1.symm, HC.out.symm, HZ.out.2.2.2.symm, by go_num, by go_num, by go_num, by go_num, rfl⟩

set_option maxHeartbeats 1000000 in
theorem rpow (n : Nat) (w : World) (hn : n ≤ 7) :
    Calls Try.prog 67 #[.int .i64 n] w fun e w' => e = .returned (.int .i64 ((2 ^ n : Nat) : Int)) ∧ w = w' := by
  go_enter Try.func67, Try.ntmps67
  go_wp2_with fail
  go_loopg [3, 4] n (fun g p i wr => ∃ (k P : Nat), g + k = n ∧ P = 2 ^ k ∧ p = .int .i64 P ∧ i = .int .i64 k ∧ w = wr)
  case atStart => exact ⟨0, 1, by omega, rfl, rfl, rfl, rfl⟩
  case round =>
    obtain ⟨k, P, hk, hP, rfl, rfl, rfl⟩ := hrel
    have p7 : 2 ^ k ≤ 2 ^ 7 := Nat.pow_le_pow_right (by omega) (by omega)
    have hP7 : P ≤ 128 := by rw [hP]; exact p7
    have hN : 2 ^ (k + 1) = 2 * P := by rw [Nat.pow_succ, hP]; omega
    have HN := Lib.hid (And.intro hN (And.intro hk hP))
    clear hN hP p7
    by_cases c : k < n
    · clear hk
      go_wp2_with fail
      go_roundg (gk - 1)
      case measure => have := HN.out.2.1; omega
      case rel => exact ⟨k + 1, 2 * P, by have := HN.out.2.1; omega, HN.out.1.symm, by go_num, by go_num, rfl⟩
    · have hkn : k = n := by omega
      have HK := Lib.hid hkn
      clear hkn hk
      go_wp2_with fail
      go_ret
      exact ⟨by rw [← HK.out, ← HN.out.2.2]; rfl, rfl⟩

set_option maxHeartbeats 1000000 in
theorem rhalf (m : Nat) (w : World) (h1 : 1 ≤ m) (h2 : m ≤ 8192) :
    Calls Try.prog 49 #[.int .i64 m] w fun e w' => e = .returned (.int .i64 ((halfN m : Nat) : Int)) ∧ w = w' := by
  have hz := halfN_b m h2
  have HZ := Lib.hid hz
  clear hz
  go_enter Try.func49, Try.ntmps49
  go_wp2_with fail
  go_loopg [3, 4] 6 (fun g h n wr => ∃ (k P : Nat), g + k = 7 ∧ 1 ≤ k ∧ k ≤ halfN m ∧ P = 2 ^ (2 * k) ∧ h = .int .i64 k ∧ n = .int .i64 P ∧ w = wr)
  case atStart => exact ⟨1, 4, by omega, by omega, HZ.out.1, rfl, rfl, rfl, rfl⟩
  case round =>
    obtain ⟨k, P, hk, hk1, hk2, hP, rfl, rfl, rfl⟩ := hrel
    have p7 : 2 ^ (2 * k) ≤ 2 ^ 14 := Nat.pow_le_pow_right (by omega) (by omega)
    have hP7 : P ≤ 16384 := by rw [hP]; exact p7
    have hN : 2 ^ (2 * (k + 1)) = 4 * P := by rw [hP, show 2 * (k + 1) = 2 * k + 2 by omega, Nat.pow_add]; omega
    by_cases c : P < m
    · have hk6 : k < 7 := by
        have : k ≠ 7 := by intro e; subst e; simp at hP; omega
        omega
      have hlt := halfN_lt m k hk1 hk6 (by rw [← hP]; exact c)
      have HN := Lib.hid (And.intro hN (And.intro hk hlt))
      clear hN hP p7 hk hlt hk2
      go_wp2_with fail
      go_roundg (gk - 1)
      case measure => have := HN.out.2.1; omega
      case rel => exact ⟨k + 1, 4 * P, by have := HN.out.2.1; omega, by omega, HN.out.2.2, HN.out.1.symm, by go_num, by go_num, rfl⟩
    · have hge := halfN_ge m k h2 hk1 (by omega) (by rw [← hP]; exact c)
      have hkn : k = halfN m := by omega
      have HK := Lib.hid hkn
      clear hkn hk hk2 hge hN hP p7
      go_wp2_with fail
      go_ret
      exact ⟨by rw [← HK.out]; rfl, rfl⟩

set_option maxHeartbeats 1000000 in
theorem rmix (x k h : Nat) (w : World) (hx : x < 65536) (hk : k < 65536) (hh : h ≤ 7) :
    Calls Try.prog 68 #[.int .i64 x, .int .i64 k, .int .i64 h] w fun e w' => e = .returned (.int .i64 ((mixN x k h : Nat) : Int)) ∧ w = w' := by
  obtain ⟨S, hS⟩ : ∃ S : Nat, S = (x * 40503 + k * 52711 + 12289) % 65536 := ⟨_, rfl⟩
  have hm : mixN x k h = (S ^^^ S / 128) % 2 ^ h := by unfold mixN; rw [Nat.mod_eq_of_lt hx, ← hS]
  have e1 : ((x : Int) * 40503 + (k : Int) * 52711 + 12289) % 65536 = (S : Int) := by omega
  have hl : S < 65536 := by omega
  obtain ⟨D, hD, e2⟩ : ∃ D : Nat, S / 128 = D ∧ (S : Int) / 128 = (D : Int) := ⟨S / 128, rfl, by omega⟩
  rw [hD] at hm
  have HX := Lib.hid (fun w => rxor S D w hl (by omega))
  have HP := Lib.hid (fun w => rpow h w hh)
  have hX : S ^^^ D < 2 ^ 16 := Nat.xor_lt_two_pow hl (by omega)
  have HM := Lib.hid hm
  have hpp : 0 < 2 ^ h := Nat.two_pow_pos h
  have hp7 : 2 ^ h ≤ 2 ^ 7 := Nat.pow_le_pow_right (by omega) hh
  obtain ⟨X, hXe⟩ : ∃ X, S ^^^ D = X := ⟨_, rfl⟩
  obtain ⟨P, hPe⟩ : ∃ P, 2 ^ h = P := ⟨_, rfl⟩
  rw [hXe] at HX HM hX
  rw [hPe] at HP HM hpp hp7
  clear hm hXe hPe hS hD
  go_enter Try.func68, Try.ntmps68
  go_wp2_with fail
  refine (HX.out _).mono ?_
  rintro e w1 ⟨rfl, rfl⟩
  go_wp2_with fail
  refine (HP.out _).mono ?_
  rintro e w1 ⟨rfl, rfl⟩
  have hP0 : (P : Int) ≠ 0 := by omega
  go_wp2_with fail
  go_ret
  exact ⟨by rw [HM.out]; rfl, rfl⟩

end Go.Proofs.Ytdpkjbjnjkoeaaa
