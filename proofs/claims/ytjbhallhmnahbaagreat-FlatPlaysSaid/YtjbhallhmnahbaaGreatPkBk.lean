/-
  PkBk: FeiX, FeiY, RhM, GapE, GapTP, GapSP.
-/
import Derived.Test.YtjbhallhmnahbaaGreatPkBi
import Derived.Test.YtjbhallhmnahbaaGreatPkBe
import Derived.Test.YtjbhallhmnahbaaGreatPkAw
import Derived.Test.YtjbhallhmnahbaaGreatPkAy
import Derived.Test.YtjbhallhmnahbaaGreatPkAt

set_option linter.unusedVariables false

/-
  The document's own answer for layer 8: contracts of the reference's functions.
-/
namespace Go.Proofs.YtjbhallhmnahbaaGreat
open Go.RowKit

theorem xor_lo (a b s : Nat) : (a ^^^ b) % 2 ^ (s + 1) = (a ^^^ b) % 2 ^ s + (if a / 2 ^ s % 2 = b / 2 ^ s % 2 then 0 else 2 ^ s) := by
  have e : (a ^^^ b) / 2 ^ s % 2 = if a / 2 ^ s % 2 = b / 2 ^ s % 2 then 0 else 1 := by
    rw [Nat.xor_div_two_pow]
    have h := @Nat.xor_mod_two_eq_one (a / 2 ^ s) (b / 2 ^ s)
    have p := Nat.mod_two_eq_zero_or_one (a / 2 ^ s)
    have q := Nat.mod_two_eq_zero_or_one (b / 2 ^ s)
    have r := Nat.mod_two_eq_zero_or_one (a / 2 ^ s ^^^ b / 2 ^ s)
    by_cases c : a / 2 ^ s % 2 = b / 2 ^ s % 2
    · rw [if_pos c]
      rcases r with r | r
      · exact r
      · exact absurd (by rw [c]) (h.1 r)
    · rw [if_neg c]
      apply h.2
      intro k
      apply c
      rcases p with p | p <;> rcases q with q | q <;> simp_all
  rw [Nat.pow_succ, Nat.mod_mul, e]
  split <;> simp

set_option maxHeartbeats 1000000 in
theorem rxor (a b : Nat) (w : World) (ha : a < 65536) (hb : b < 65536) :
    Calls Tryz.prog 193 #[.int .i64 a, .int .i64 b] w fun e w' => e = .returned (.int .i64 ((a ^^^ b : Nat) : Int)) ∧ w = w' := by
  have hX : a ^^^ b < 2 ^ 16 := Nat.xor_lt_two_pow ha hb
  have HL := Lib.hid (fun s => xor_lo a b s)
  obtain ⟨X, hXe⟩ : ∃ X, a ^^^ b = X := ⟨_, rfl⟩
  have HX := Lib.hid hXe
  rw [hXe] at hX HL
  clear hXe
  go_enter Tryz.func193, Tryz.ntmps193
  go_wp2_with fail
  have h0 : X % 2 ^ 0 = 0 := Nat.mod_one X
  go_loopg [0, 1, 5, 6] 16 (fun g x y n m wr => ∃ (s A B N M : Nat), g + s = 16 ∧ A = a / 2 ^ s ∧ B = b / 2 ^ s ∧ N = X % 2 ^ s ∧ M = 2 ^ s ∧ x = .int .i64 A ∧ y = .int .i64 B ∧ n = .int .i64 N ∧ m = .int .i64 M ∧ w = wr)
  case atStart => exact ⟨0, a, b, 0, 1, by omega, by simp, by simp, h0.symm, rfl, rfl, rfl, rfl, rfl, rfl⟩
  case round =>
    obtain ⟨s, A, B, N, M, hs, hA, hB, hN, hM, rfl, rfl, rfl, rfl, rfl⟩ := hrel
    clear h0
    have l1 := HL.out s
    have p16 : 2 ^ s ≤ 2 ^ 16 := Nat.pow_le_pow_right (by omega) (by omega)
    have a1 : a / 2 ^ (s + 1) = A / 2 := by rw [Nat.pow_succ, ← Nat.div_div_eq_div_mul, ← hA]
    have b1 : b / 2 ^ (s + 1) = B / 2 := by rw [Nat.pow_succ, ← Nat.div_div_eq_div_mul, ← hB]
    have m1 : 2 ^ (s + 1) = 2 * M := by rw [Nat.pow_succ, hM]; omega
    rw [← hA, ← hB, ← hN, ← hM] at l1
    have hA16 : A ≤ a := by rw [hA]; exact Nat.div_le_self _ _
    have hB16 : B ≤ b := by rw [hB]; exact Nat.div_le_self _ _
    have hN16 : N < 65536 := by rw [hN]; exact Nat.lt_of_le_of_lt (Nat.mod_le _ _) hX
    have hM16 : M ≤ 65536 := by rw [hM]; exact p16
    by_cases z : A = 0 ∧ B = 0
    · obtain ⟨zA, zB⟩ := z
      have hfin : N = X := by
        have h1 : a < 2 ^ s := by
          rcases Nat.lt_or_ge a (2 ^ s) with h | h
          · exact h
          · have := Nat.div_pos h (Nat.two_pow_pos s); omega
        have h2 : b < 2 ^ s := by
          rcases Nat.lt_or_ge b (2 ^ s) with h | h
          · exact h
          · have := Nat.div_pos h (Nat.two_pow_pos s); omega
        have h3 := Nat.xor_lt_two_pow h1 h2
        rw [HX.out] at h3
        rw [hN, Nat.mod_eq_of_lt h3]
      clear hA hB hN hM l1 a1 b1 m1 p16 hA16 hB16 hX
      subst zA
      subst zB
      have HF := Lib.hid hfin
      clear hfin
      go_wp2_with fail
      go_ret
      exact ⟨by rw [HX.out, ← HF.out]; rfl, rfl⟩
    · have hgk : 1 ≤ gk := by
        rcases Nat.lt_or_ge gk 1 with h | h
        · obtain rfl : s = 16 := by omega
          exfalso
          apply z
          constructor
          · rw [hA]; exact Nat.div_eq_of_lt ha
          · rw [hB]; exact Nat.div_eq_of_lt hb
        · exact h
      have HZ := Lib.hid (And.intro hs (And.intro a1 (And.intro b1 m1)))
      clear hs a1 b1 m1 hA hB hN hM p16
      by_cases c : A % 2 = B % 2
      · rw [if_pos c] at l1
        have HC := Lib.hid l1
        clear l1
        have c' : ((A : Int) % 2 == (B : Int) % 2) = true := by simp; omega
        have c'' : ((A : Int) % 2 != (B : Int) % 2) = false := by simp; omega
        by_cases zA : 0 < A
        · have HC2 := Lib.hid c
          clear c
          go_wp2_with fail
          go_roundg (gk - 1)
          case measure => omega
          case rel => exact ⟨s + 1, A / 2, B / 2, N, 2 * M, by have := HZ.out.1; omega, HZ.out.2.1.symm, HZ.out.2.2.1.symm, by rw [HC.out]; omega, HZ.out.2.2.2.symm, by go_num, by go_num, rfl, by go_num, rfl⟩
        · have zA' : A = 0 := by omega
          have zB : 0 < B := by omega
          subst zA'
          have HC2 := Lib.hid c
          clear c
          go_wp2_with fail
          go_roundg (gk - 1)
          case measure => omega
          case rel => exact ⟨s + 1, 0 / 2, B / 2, N, 2 * M, by have := HZ.out.1; omega, HZ.out.2.1.symm, HZ.out.2.2.1.symm, by rw [HC.out]; omega, HZ.out.2.2.2.symm, by go_num, by go_num, rfl, by go_num, rfl⟩
      · rw [if_neg c] at l1
        have HC := Lib.hid l1
        clear l1
        have c' : ((A : Int) % 2 == (B : Int) % 2) = false := by simp; omega
        have c'' : ((A : Int) % 2 != (B : Int) % 2) = true := by simp; omega
        by_cases zA : 0 < A
        · have HC2 := Lib.hid c
          clear c
          go_wp2_with fail
          go_roundg (gk - 1)
          case measure => omega
          case rel => exact ⟨s + 1, A / 2, B / 2, N + M, 2 * M, by have := HZ.out.1; omega, HZ.out.2.1.symm, HZ.out.2.2.1.symm, HC.out.symm, HZ.out.2.2.2.symm, by go_num, by go_num, by go_num, by go_num, rfl⟩
        · have zA' : A = 0 := by omega
          have zB : 0 < B := by omega
          subst zA'
          have HC2 := Lib.hid c
          clear c
          go_wp2_with fail
          go_roundg (gk - 1)
          case measure => omega
          case rel => exact ⟨s + 1, 0 / 2, B / 2, N + M, 2 * M, by have := HZ.out.1; omega, HZ.out.2.1.symm, HZ.out.2.2.1.symm, HC.out.symm, HZ.out.2.2.2.symm, by go_num, by go_num, by go_num, by go_num, rfl⟩

set_option maxHeartbeats 1000000 in
theorem rpow (n : Nat) (w : World) (hn : n ≤ 7) :
    Calls Tryz.prog 191 #[.int .i64 n] w fun e w' => e = .returned (.int .i64 ((2 ^ n : Nat) : Int)) ∧ w = w' := by
  go_enter Tryz.func191, Tryz.ntmps191
  go_wp2_with fail
  go_loopg [3, 4] n (fun g p i wr => ∃ (k P : Nat), g + k = n ∧ P = 2 ^ k ∧ p = .int .i64 P ∧ i = .int .i64 k ∧ w = wr)
  case atStart => exact ⟨0, 1, by omega, rfl, rfl, rfl, rfl⟩
  case round =>
    obtain ⟨k, P, hk, hP, rfl, rfl, rfl⟩ := hrel
    have p7 : 2 ^ k ≤ 2 ^ 7 := Nat.pow_le_pow_right (by omega) (by omega)
    have hP7 : P ≤ 128 := by rw [hP]; exact p7
    have hN : 2 ^ (k + 1) = 2 * P := by rw [Nat.pow_succ, hP]; omega
    have HN := Lib.hid (And.intro hN (And.intro hk hP))
    clear hN hP p7
    by_cases c : k < n
    · clear hk
      go_wp2_with fail
      go_roundg (gk - 1)
      case measure => have := HN.out.2.1; omega
      case rel => exact ⟨k + 1, 2 * P, by have := HN.out.2.1; omega, HN.out.1.symm, by go_num, by go_num, rfl⟩
    · have hkn : k = n := by omega
      have HK := Lib.hid hkn
      clear hkn hk
      go_wp2_with fail
      go_ret
      exact ⟨by rw [← HK.out, ← HN.out.2.2]; rfl, rfl⟩

set_option maxHeartbeats 1000000 in
theorem rhalf (m : Nat) (w : World) (h1 : 1 ≤ m) (h2 : m ≤ 8192) :
    Calls Tryz.prog 168 #[.int .i64 m] w fun e w' => e = .returned (.int .i64 ((halfN m : Nat) : Int)) ∧ w = w' := by
  have hz := halfN_b m h2
  have HZ := Lib.hid hz
  clear hz
  go_enter Tryz.func168, Tryz.ntmps168
  go_wp2_with fail
  go_loopg [3, 4] 6 (fun g h n wr => ∃ (k P : Nat), g + k = 7 ∧ 1 ≤ k ∧ k ≤ halfN m ∧ P = 2 ^ (2 * k) ∧ h = .int .i64 k ∧ n = .int .i64 P ∧ w = wr)
  case atStart => exact ⟨1, 4, by omega, by omega, HZ.out.1, rfl, rfl, rfl, rfl⟩
  case round =>
    obtain ⟨k, P, hk, hk1, hk2, hP, rfl, rfl, rfl⟩ := hrel
    have p7 : 2 ^ (2 * k) ≤ 2 ^ 14 := Nat.pow_le_pow_right (by omega) (by omega)
    have hP7 : P ≤ 16384 := by rw [hP]; exact p7
    have hN : 2 ^ (2 * (k + 1)) = 4 * P := by rw [hP, show 2 * (k + 1) = 2 * k + 2 by omega, Nat.pow_add]; omega
    by_cases c : P < m
    · have hk6 : k < 7 := by
        have : k ≠ 7 := by intro e; subst e; simp at hP; omega
        omega
      have hlt := halfN_lt m k hk1 hk6 (by rw [← hP]; exact c)
      have HN := Lib.hid (And.intro hN (And.intro hk hlt))
      clear hN hP p7 hk hlt hk2
      go_wp2_with fail
      go_roundg (gk - 1)
      case measure => have := HN.out.2.1; omega
      case rel => exact ⟨k + 1, 4 * P, by have := HN.out.2.1; omega, by omega, HN.out.2.2, HN.out.1.symm, by go_num, by go_num, rfl⟩
    · have hge := halfN_ge m k h2 hk1 (by omega) (by rw [← hP]; exact c)
      have hkn : k = halfN m := by omega
      have HK := Lib.hid hkn
      clear hkn hk hk2 hge hN hP p7
      go_wp2_with fail
      go_ret
      exact ⟨by rw [← HK.out]; rfl, rfl⟩

set_option maxHeartbeats 1000000 in
theorem rmix (x k h : Nat) (w : World) (hx : x < 65536) (hk : k < 65536) (hh : h ≤ 7) :
    Calls Tryz.prog 192 #[.int .i64 x, .int .i64 k, .int .i64 h] w fun e w' => e = .returned (.int .i64 ((mixN x k h : Nat) : Int)) ∧ w = w' := by
  obtain ⟨S, hS⟩ : ∃ S : Nat, S = (x * 40503 + k * 52711 + 12289) % 65536 := ⟨_, rfl⟩
  have hm : mixN x k h = (S ^^^ S / 128) % 2 ^ h := by unfold mixN; rw [Nat.mod_eq_of_lt hx, ← hS]
  have e1 : ((x : Int) * 40503 + (k : Int) * 52711 + 12289) % 65536 = (S : Int) := by omega
  have hl : S < 65536 := by omega
  obtain ⟨D, hD, e2⟩ : ∃ D : Nat, S / 128 = D ∧ (S : Int) / 128 = (D : Int) := ⟨S / 128, rfl, by omega⟩
  rw [hD] at hm
  have HX := Lib.hid (fun w => rxor S D w hl (by omega))
  have HP := Lib.hid (fun w => rpow h w hh)
  have hX : S ^^^ D < 2 ^ 16 := Nat.xor_lt_two_pow hl (by omega)
  have HM := Lib.hid hm
  have hpp : 0 < 2 ^ h := Nat.two_pow_pos h
  have hp7 : 2 ^ h ≤ 2 ^ 7 := Nat.pow_le_pow_right (by omega) hh
  obtain ⟨X, hXe⟩ : ∃ X, S ^^^ D = X := ⟨_, rfl⟩
  obtain ⟨P, hPe⟩ : ∃ P, 2 ^ h = P := ⟨_, rfl⟩
  rw [hXe] at HX HM hX
  rw [hPe] at HP HM hpp hp7
  clear hm hXe hPe hS hD
  go_enter Tryz.func192, Tryz.ntmps192
  go_wp2_with fail
  refine (HX.out _).mono ?_
  rintro e w1 ⟨rfl, rfl⟩
  go_wp2_with fail
  refine (HP.out _).mono ?_
  rintro e w1 ⟨rfl, rfl⟩
  have hP0 : (P : Int) ≠ 0 := by omega
  go_wp2_with fail
  go_ret
  exact ⟨by rw [HM.out]; rfl, rfl⟩

end Go.Proofs.YtjbhallhmnahbaaGreat

/-
  The document's own answer for layer 8: turn and To.
-/
namespace Go.Proofs.YtjbhallhmnahbaaGreat
open Go.RowKit

def kl (key : Nat) : List Nat := [keyN key 0, keyN key 1, keyN key 2, keyN key 3]
theorem kl_get (key k : Nat) (hk : k < 4) : (kl key)[k]? = some (keyN key k) := by
  have hc : k = 0 ∨ k = 1 ∨ k = 2 ∨ k = 3 := by omega
  rcases hc with rfl | rfl | rfl | rfl <;> rfl
set_option maxRecDepth 20000 in
set_option maxHeartbeats 2000000 in
theorem rturn (n h key : Nat) (w : World) (h1 : 1 ≤ h) (h2 : h ≤ 7) (hn : n < 2 ^ h * 2 ^ h) (hkey : key < 18446744073709551616) :
    Calls Tryz.prog 169 #[.int .i64 n, .int .i64 h, .int .u64 key] w fun e w' => e = .returned (.int .i64 ((turnN h (kl key) n : Nat) : Int)) ∧ w = w' := by
  have HP := Lib.hid (fun w => rpow h w h2)
  have hin := spl_in hn
  have hfin : turnN h (kl key) n = joi h (rds h (kl key) (spl h n)) := rfl
  have HT := Lib.hid hfin
  have hp7 : 2 ^ h ≤ 2 ^ 7 := Nat.pow_le_pow_right (by omega) h2
  have hpp : 0 < 2 ^ h := Nat.two_pow_pos h
  have hn14 : n < 2147483648 := by
    have : 2 ^ h * 2 ^ h ≤ 2 ^ 7 * 2 ^ 7 := Nat.mul_le_mul hp7 hp7
    omega
  obtain ⟨l0, r0, hl0, hr0, hs0⟩ : ∃ l0 r0 : Nat, n / 2 ^ h = l0 ∧ n % 2 ^ h = r0 ∧ spl h n = (l0, r0) := ⟨_, _, rfl, rfl, rfl⟩
  rw [hs0] at hin
  have HS := Lib.hid hs0
  obtain ⟨P, hPe⟩ : ∃ P, 2 ^ h = P := ⟨_, rfl⟩
  rw [hPe] at HP hp7 hpp hl0 hr0
  have el : (n : Int) / (P : Int) = (l0 : Int) := by rw [← hl0]; push_cast; rfl
  have er : (n : Int) % (P : Int) = (r0 : Int) := by rw [← hr0]; push_cast; rfl
  have HPe := Lib.hid hPe
  have HI := Lib.hid hin
  clear hfin hn hs0 hPe hin hl0 hr0
  have hP0 : (P : Int) ≠ 0 := by omega
  have hll : l0 < P := by have := HI.out.1; rw [HPe.out] at this; exact this
  go_enter Tryz.func169, Tryz.ntmps169
  go_wp2_with fail
  refine (HP.out _).mono ?_
  rintro e w1 ⟨rfl, rfl⟩
  go_wp2_with fail
  try rw [er]
  clear el er
  go_loopg [2, 8, 9, 10] 4 (fun g kv l r i wr => ∃ (k K : Nat) (p : Nat × Nat), g + k = 4 ∧ K = key / 65536 ^ k ∧ p = rds h ((kl key).take k) (l0, r0) ∧ inH h p ∧ kv = .int .u64 K ∧ l = .int .i64 (p.1 : Nat) ∧ r = .int .i64 (p.2 : Nat) ∧ i = .int .i64 k ∧ w = wr)
  case atStart => exact ⟨0, key, (l0, r0), by omega, by simp, rfl, HI.out, rfl, rfl, rfl, rfl, rfl⟩
  case round =>
    obtain ⟨k, K, p, hk, hK, hp, hin, rfl, rfl, rfl, rfl, rfl⟩ := hrel
    obtain ⟨l, r⟩ := p
    have hin1 : l < P := by have := hin.1; rw [HPe.out] at this; exact this
    have hin2 : r < P := by have := hin.2; rw [HPe.out] at this; exact this
    have hKl : K < 18446744073709551616 := by rw [hK]; exact Nat.lt_of_le_of_lt (Nat.div_le_self _ _) hkey
    have HP2 := Lib.hid (And.intro hp hin)
    clear hp hin
    by_cases hlt : k < 4
    · have hkq : K % 65536 = keyN key k := by unfold keyN; rw [← hK]
      have hnx := rds_next h (kl key) k (keyN key k) (kl_get key k hlt) (l0, r0)
      rw [← HP2.out.1] at hnx
      have hq := keyN_lt key k
      have hkN : key / 65536 ^ (k + 1) = K / 65536 := by rw [Nat.pow_succ, ← Nat.div_div_eq_div_mul, ← hK]
      generalize keyN key k = q at *
      have hrd : rd h q (l, r) = (r, l ^^^ mixN r q h) := rfl
      rw [hrd] at hnx
      have hin3 : inH h (r, l ^^^ mixN r q h) := rd_in (k := q) HP2.out.2
      have hm := mixN_lt r q h
      rw [HPe.out] at hm
      have HM := Lib.hid (fun w => rmix r q h w (by omega) hq h2)
      have HX := Lib.hid (fun w => rxor l (mixN r q h) w (by omega) (by omega))
      generalize mixN r q h = mm at *
      generalize l ^^^ mm = xx at *
      have HN := Lib.hid (And.intro hk (And.intro hkN (And.intro hnx hin3)))
      have eq1 : (K : Int) % 65536 = (q : Int) := by omega
      clear hk hkN hnx hin3 hK hrd hm hkq
      go_wp2_with fail
      refine (HM.out _).mono ?_
      rintro e w2 ⟨rfl, rfl⟩
      go_wp2_with fail
      refine (HX.out _).mono ?_
      rintro e w2 ⟨rfl, rfl⟩
      go_wp2_with fail
      go_roundg (gk - 1)
      case measure => have := HN.out.1; omega
      case rel => exact ⟨k + 1, K / 65536, (r, xx), by have := HN.out.1; omega, HN.out.2.1.symm, HN.out.2.2.1.symm, HN.out.2.2.2, by go_num, rfl, rfl, by go_num, rfl⟩
    · obtain rfl : k = 4 := by omega
      have hb : l * P < 16384 := by
        calc l * P < P * P := Nat.mul_lt_mul_of_pos_right hin1 hpp
          _ ≤ 2 ^ 7 * 2 ^ 7 := Nat.mul_le_mul hp7 hp7
      obtain ⟨LP, hLP, hLPe⟩ : ∃ LP : Nat, (l : Int) * (P : Int) = (LP : Int) ∧ LP = l * P := ⟨l * P, by push_cast; rfl, rfl⟩
      have hLb : LP < 16384 := by omega
      have HL := Lib.hid hLPe
      clear hLPe hk hK hb
      go_wp2_with fail
      have e4 : turnN h (kl key) n = LP + r := by
        rw [HT.out, HS.out, HL.out]
        have : rds h (kl key) (l0, r0) = (l, r) := HP2.out.1.symm
        rw [this]
        unfold joi
        rw [HPe.out]
      go_ret
      exact ⟨by rw [e4] <;> rfl, rfl⟩

set_option maxHeartbeats 2000000 in
theorem rto (m key i j : Nat) (w : World) (h1 : 1 ≤ m) (h2 : m ≤ 8192) (hkey : key < 18446744073709551616) (hi : i < m) (hf : FB (turnN (halfN m) (kl key)) m i j) :
    Calls Tryz.prog 122 #[.int .i64 m, .int .u64 key, .int .i64 i] w fun e w' => e = .returned (.int .i64 j) ∧ w = w' := by
  obtain ⟨hh1, hh2, hh3⟩ := halfN_b m h2
  have HH := Lib.hid (fun w => rhalf m w h1 h2)
  obtain ⟨D, hD, hj, hjm, hall⟩ := hf
  have HC := Lib.hid (fun (n : Nat) (w : World) (hn : n < 2 ^ halfN m * 2 ^ halfN m) => rturn n (halfN m) key w hh1 hh2 hn hkey)
  have HL := Lib.hid (fun s => iter_lt (f := turnN (halfN m) (kl key)) (M := 2 ^ halfN m * 2 ^ halfN m) (fun x hx => turnN_lt (kl key) hx) s i (by omega))
  have HA := Lib.hid hall
  have HJ := Lib.hid hj
  have HS := Lib.hid hh3
  clear hall hj hh1 hh2 hh3 hkey
  generalize halfN m = h at *
  go_enter Tryz.func122, Tryz.ntmps122
  go_wp2_with fail
  refine (HH.out _).mono ?_
  rintro e w1 ⟨rfl, rfl⟩
  go_wp2_with fail
  refine (HC.out i _ (by have := HS.out; omega)).mono ?_
  rintro e w1 ⟨rfl, rfl⟩
  have HP : Pl (turnN h (kl key)) i D (D - 1) (turnN h (kl key) i) := ⟨1, Nat.le_refl _, by omega, rfl⟩
  have HB0 := Lib.hid (HL.out 1)
  have e1 : iter (turnN h (kl key)) 1 i = turnN h (kl key) i := rfl
  rw [e1] at HB0
  clear e1
  generalize turnN h (kl key) i = x0 at *
  go_wp2_with fail
  go_loopg [2] (D - 1) (fun g x wr => ∃ (y : Nat), g < D ∧ x = .int .i64 y ∧ Pl (turnN h (kl key)) i D g y ∧ w = wr)
  case atStart => exact ⟨x0, by omega, rfl, HP, rfl⟩
  case round =>
    clear HP HB0
    obtain ⟨y, hkD, rfl, hpl, rfl⟩ := hrel
    obtain ⟨s, hs1, hs2', hy⟩ := hpl
    have hyl : y < 2 ^ h * 2 ^ h := by rw [hy]; exact HL.out s
    have HY := Lib.hid hy
    by_cases hk0 : gk = 0
    · have hyj : y = j := by
        have := HJ.out
        obtain rfl : s = D := by omega
        rw [hy, this]
      have hlt : y < m := by omega
      have HB := Lib.hid hyj
      clear hyj hk0 hs2' hy hyl
      go_wp2_with fail
      go_ret
      exact ⟨by rw [HB.out]; rfl, rfl⟩
    · have hge : m ≤ y := by rw [hy]; exact HA.out s hs1 (by omega)
      clear hy
      have HN := Lib.hid (show Pl (turnN h (kl key)) i D (gk - 1) (turnN h (kl key) y) from ⟨s + 1, by omega, by omega, by rw [HY.out]; rfl⟩)
      have HCy := Lib.hid (fun w => HC.out y w hyl)
      generalize turnN h (kl key) y = x1 at HN HCy
      have HQ := Lib.hid hs2'
      clear hs2' hyl
      go_wp2_with fail
      refine (HCy.out _).mono ?_
      rintro e w2 ⟨rfl, rfl⟩
      go_wp2
      go_roundg (gk - 1)
      case measure => omega
      case rel => exact ⟨x1, by omega, rfl, HN.out, rfl⟩

end Go.Proofs.YtjbhallhmnahbaaGreat

/-
  Layer 7: words stay words, whatever is written.
-/
namespace Go.Proofs.YtjbhallhmnahbaaGreat
open Go.RowKit
set_option linter.unusedVariables false

def MBB (D : DevS) : Prop := MB D ∧ ∀ z p, D.buf z = some p → p.1 < 18446744073709551616
theorem MBB.op {D : DevS} (h : MBB D) (t : Bool) {f : DevS → DevS} (hf : ∀ E, MBB E → MBB (f E)) : MBB (opD D t f) := by
  unfold opD
  split
  · exact h
  · split
    · exact h
    · exact hf _ h
theorem MBB.store {D : DevS} (h : MBB D) (z : Int) {v : Nat} (hv : v < 18446744073709551616) : MBB (storeF z v D) := by
  refine ⟨h.1, fun y p e => ?_⟩
  have e2 : updZ D.buf z (some (v, false)) y = some p := e
  unfold updZ at e2
  split at e2
  · injection e2 with e2
    rw [← e2]
    exact hv
  · exact h.2 y p e2
theorem MBB.flush {D : DevS} (h : MBB D) (z : Int) : MBB (flushF z D) := by
  refine ⟨h.1, fun y p e => ?_⟩
  have e2 : flF D.buf z.toNat 8 y = some p := e
  unfold flF at e2
  split at e2
  · cases c : D.buf y with
    | none => rw [c] at e2; cases e2
    | some x =>
      rw [c] at e2
      have e3 : some (x.1, true) = some p := e2
      injection e3 with e3
      rw [← e3]
      exact h.2 y x c
  · exact h.2 y p e2
theorem MBB.fence {D : DevS} (h : MBB D) : MBB (fenceF D) := by
  refine ⟨fun x => ?_, fun y p e => ?_⟩
  · show perMed D (fluS D) x < _
    unfold perMed
    split
    · cases c : D.buf (x : Int) with
      | none => exact (by decide : 0 < 18446744073709551616)
      | some y => exact h.2 _ y c
    · exact h.1 x
  · have e2 : perBuf D (fluS D) y = some p := e
    unfold perBuf at e2
    split at e2
    · cases e2
    · exact h.2 y p e2
theorem MBB.fin {D : DevS} (h : MBB D) (l : Nat) : MBB (finS l D).2 := by
  unfold finS
  split
  · exact (h.op _ fun E hE => hE.flush _).op _ fun E hE => hE.fence
  · exact h.op _ fun E hE => hE.flush _
theorem MBB.stos {f : Nat → Nat} (hf : ∀ k, f k < 18446744073709551616) (l k : Nat) : ∀ (m i : Nat) (D : DevS), MBB D → MBB (stos l k f m i D).2
  | 0, _, D, h => h.fin l
  | m + 1, i, D, h => by
    unfold Go.Proofs.YtjbhallhmnahbaaGreat.stos
    split
    · exact MBB.stos hf l k m (i + 1) _ (h.op _ fun E hE => hE.store _ (hf i))
    · exact h.op _ fun E hE => hE.store _ (hf i)
theorem MBB.put {D : DevS} (h : MBB D) (z : Int) (s : ByteArray) : MBB (putE D z s).2 := by
  unfold putE
  split
  · exact h
  · split
    · exact MBB.stos (fun k => wdL_lt _ k) _ _ _ _ _ h
    · exact h
theorem MBB.pw {D : DevS} (h : MBB D) (z k : Int) {v : Nat} (hv : v < 18446744073709551616) : MBB (pwE D z k v).2 := by
  unfold pwE
  split
  · exact h
  · split
    · exact MBB.stos (fun _ => hv) _ _ _ _ _ h
    · exact h
theorem markN_lt (D : DevS) (z : Int) {i : Int} (s : ByteArray) (hi : i < 65535) : markN D z i s < 18446744073709551616 := by
  unfold markN
  split <;> omega
theorem MBB.rep {D : DevS} (h : MBB D) (p : PlanZ) {i : Int} (s : ByteArray) (B : BkS) (hi : i < 65535) : MBB (replaceS p i s D B).D := by
  unfold replaceS
  split
  · exact h.put _ _
  · split
    · exact (h.put _ _).pw _ _ (guardN_lt _ (markN_lt _ _ _ hi))
    · exact (h.put _ _).pw _ _ (guardN_lt _ (markN_lt _ _ _ hi))
theorem MBB.ens {p : PlanZ} {i : Int} {s : ByteArray} (hi : i < 65535) : ∀ (n : Nat) (D : DevS) (B : BkS), MBB D → MBB (ensS p i s n D B).2.1
  | 0, D, B, h => h
  | n + 1, D, B, h => by
    unfold ensS
    split
    · exact h.rep p s B hi
    · exact MBB.ens hi n _ _ (h.rep p s B hi)
theorem MBB.ensure {D : DevS} (h : MBB D) (p : PlanZ) {i : Int} (z : Int) (s : ByteArray) (B : BkS) (hi : i < 65535) : MBB (ensureS p i z s D B).2.1 := by
  unfold ensureS
  split
  · exact h
  · exact MBB.ens hi _ _ _ h
theorem MBB.write {D : DevS} (h : MBB D) (p : PlanZ) {i : Int} (s : ByteArray) (B : BkS) (hi : i < 65535) : MBB (writeS p i s D B).2.1 := by
  unfold writeS
  split
  · exact h
  · split
    · split
      · exact h.put _ _
      · exact (h.put _ _).ensure _ _ _ _ hi
    · exact h
theorem MBB.ww {D : DevS} (h : MBB D) (p : PlanZ) {i : Int} (k : Int) {v : Nat} (B : BkS) (hi : i < 65535) (hv : v < 18446744073709551616) : MBB (writeWordS p i k v D B).2.1 := by
  unfold writeWordS
  split
  · exact h
  · split
    · split
      · exact h
      · split
        · exact h.pw _ _ hv
        · exact (h.pw _ _ hv).ensure _ _ _ _ hi
    · exact h
end Go.Proofs.YtjbhallhmnahbaaGreat

/-
  The walk of GapMoves: Next of every state.
-/
namespace Go.Proofs.YtjbhallhmnahbaaGreat
open Go.RowKit

set_option maxHeartbeats 800000 in
theorem rnext_pos (s g n : Int) (w : World) (hs : rightS s g n) (h : 0 < g) :
    Calls Tryz.prog 170 #[.int .i64 s, .int .i64 g, .int .i64 n] w fun e w' => e = .returned (.tuple #[.int .i64 s, .int .i64 (g - 1), .int .i64 (g - 1), .int .i64 g]) ∧ w = w' := by
  obtain ⟨a1, a2, a3, a4, a5, a6⟩ := hs
  go_enter Tryz.func170, Tryz.ntmps170
  go_wp2
  exact bodyPost_ret (v := .tuple #[.int .i64 s, .int .i64 (g - 1), .int .i64 (g - 1), .int .i64 g]) (by simp [results, Tryz.results170, go_sem]) rfl ⟨rfl, rfl⟩
set_option maxHeartbeats 800000 in
theorem rnext_zero (s n : Int) (w : World) (hs : rightS s 0 n) :
    Calls Tryz.prog 170 #[.int .i64 s, .int .i64 0, .int .i64 n] w fun e w' => e = .returned (.tuple #[.int .i64 ((s + 1) % n), .int .i64 n, .int .i64 n, .int .i64 0]) ∧ w = w' := by
  obtain ⟨a1, a2, a3, a4, a5, a6⟩ := hs
  by_cases c : s + 1 = n
  · have hb : (s + 1 == n) = true := by simp [c]
    have e : (s + 1) % n = 0 := by rw [c]; exact Int.emod_self
    rw [e]
    have C := Lib.hid c
    clear c e
    go_enter Tryz.func170, Tryz.ntmps170
    go_wp2
    exact bodyPost_ret (v := .tuple #[.int .i64 0, .int .i64 n, .int .i64 n, .int .i64 0]) (by simp [results, Tryz.results170, go_sem]) rfl ⟨rfl, rfl⟩
  · have hb : (s + 1 == n) = false := by simp [c]
    have e : (s + 1) % n = s + 1 := Int.emod_eq_of_lt (by omega) (by omega)
    rw [e]
    clear c e
    go_enter Tryz.func170, Tryz.ntmps170
    go_wp2
    exact bodyPost_ret (v := .tuple #[.int .i64 (s + 1), .int .i64 n, .int .i64 n, .int .i64 0]) (by simp [results, Tryz.results170, go_sem]) rfl ⟨rfl, rfl⟩

set_option maxHeartbeats 800000 in
theorem rright_yes (s g n : Int) (w : World) (h : rightS s g n) : Calls Tryz.prog 79 #[.int .i64 s, .int .i64 g, .int .i64 n] w fun e w' => e = .returned (.bool true) ∧ w = w' := by
  obtain ⟨h1, h2, h3, h4, h5, h6⟩ := h
  go_enter Tryz.func79, Tryz.ntmps79
  go_wp2
  go_ret
  exact ⟨by first | rfl | (simp; omega), rfl⟩
end Go.Proofs.YtjbhallhmnahbaaGreat

/-
  Plain lemmas on the ring: what is at each slot, move by move.
-/
namespace Go.Proofs.YtjbhallhmnahbaaGreat
open Go.RowKit

def occ (s g n p : Int) : Int := if p = g then -1 else lineI s g n p

theorem slot_ok (s g n i : Int) (h : rightS s g n) (h0 : 0 ≤ i) (h1 : i < n) :
    0 ≤ slotI s g n i ∧ slotI s g n i ≤ n ∧ occ s g n (slotI s g n i) = i := by
  obtain ⟨a1, a2, a3, a4, a5, a6⟩ := h
  have q1 := Int.emod_nonneg (i + s) (show n ≠ 0 by omega)
  have q2 := Int.emod_lt_of_pos (i + s) (show 0 < n by omega)
  have key : ((i + s) % n - s + n) % n = i := by
    have e : (i + s) % n - s + n = (i + s) % n + (n - s) := by omega
    rw [e, Int.emod_add_emod]
    have e2 : i + s + (n - s) = i + n := by omega
    rw [e2, Int.add_emod_right]
    exact Int.emod_eq_of_lt h0 h1
  unfold slotI occ lineI
  generalize (i + s) % n = q at *
  by_cases c : q < g
  · rw [if_pos c]
    refine ⟨by omega, by omega, ?_⟩
    rw [if_neg (by omega), if_neg (by omega)]
    exact key
  · rw [if_neg c]
    refine ⟨by omega, by omega, ?_⟩
    rw [if_neg (by omega), if_pos (by omega)]
    have e : q + 1 - 1 - s + n = q - s + n := by omega
    rw [e]
    exact key

def RowIs (xs : List Value) (s g : Int) (n : Nat) : Prop := xs.length = n + 1 ∧ ∀ p : Nat, p ≤ n → xs[p]? = some (.int .i64 (occ s g n p))
end Go.Proofs.YtjbhallhmnahbaaGreat

/-
  The reference's list of a ring's slots; what a slot holds, and back.
-/
namespace Go.Proofs.YtjbhallhmnahbaaGreat
open Go.RowKit

theorem slot_occ (s g n p : Int) (h : rightS s g n) (h0 : 0 ≤ p) (h1 : p ≤ n) (h2 : p ≠ g) : 0 ≤ lineI s g n p ∧ lineI s g n p < n ∧ slotI s g n (lineI s g n p) = p := by
  obtain ⟨a1, a2, a3, a4, a5, a6⟩ := h
  have key : ∀ q : Int, 0 ≤ q → q < n → ((q - s + n) % n + s) % n = q := by
    intro q hq hq2
    rw [Int.emod_add_emod, show q - s + n + s = q + n by omega, Int.add_emod_right]
    exact Int.emod_eq_of_lt hq hq2
  unfold slotI lineI
  refine ⟨Int.emod_nonneg _ (by omega), Int.emod_lt_of_pos _ (by omega), ?_⟩
  by_cases c : g < p
  · rw [if_pos c, key (p - 1) (by omega) (by omega), if_neg (by omega)]
    omega
  · rw [if_neg c, key p (by omega) (by omega), if_pos (by omega)]
theorem occ_b (s g n p : Int) (h : rightS s g n) (h0 : 0 ≤ p) (h1 : p ≤ n) : -1 ≤ occ s g n p ∧ occ s g n p < n := by
  unfold occ
  have := h.1
  by_cases c : p = g
  · rw [if_pos c]; omega
  · rw [if_neg c]
    have := slot_occ s g n p h h0 h1 c
    omega
def PutIs (xs : List Value) (s g : Int) (n : Nat) (i : Nat) : Prop := xs.length = n + 1 ∧ ∀ p : Nat, p ≤ n → occ s g n p < i → xs[p]? = some (.int .i64 (occ s g n p))
theorem PutIs.done {xs : List Value} {s g : Int} {n : Nat} (h : PutIs xs s g n n) (hr : rightS s g n) : RowIs xs s g n :=
  ⟨h.1, fun p hp => h.2 p hp (occ_b s g n p hr (by omega) (by omega)).2⟩
theorem PutIs.step {xs : List Value} {s g : Int} {n i p : Nat} (h : PutIs xs s g n i) (hr : rightS s g n) (hi : i < n) (hp : slotI s g n i = p) : PutIs (xs.set p (.int .i64 (i : Int))) s g n (i + 1) := by
  have hs := slot_ok s g n i hr (by omega) (by omega)
  rw [hp] at hs
  refine ⟨by simpa using h.1, fun q hq ho => ?_⟩
  have hl := h.1
  by_cases e : q = p
  · subst e
    rw [List.getElem?_set_self (by omega), hs.2.2]
  · rw [List.getElem?_set_ne (fun e' => e e'.symm)]
    refine h.2 q hq ?_
    by_cases c : (q : Int) = g
    · unfold occ; rw [if_pos c]; omega
    · have ho2 := slot_occ s g n q hr (by omega) (by omega) c
      have : occ s g n q ≠ i := by
        intro e2
        have e3 : occ s g n q = lineI s g n q := by unfold occ; rw [if_neg c]
        rw [e3] at e2
        rw [e2, hp] at ho2
        exact e (by omega)
      omega

set_option maxRecDepth 100000 in
set_option maxHeartbeats 4000000 in
theorem rslots (s g n : Nat) (w : World) (h : rightS s g n) :
    Calls Tryz.prog 171 #[.int .i64 s, .int .i64 g, .int .i64 n] w fun e w' => ∃ xs : List Value, e = .returned (.slice (some ⟨w.heap.size, 0, none⟩) (n + 1) (n + 1)) ∧
      w'.ownsRow w.heap.size 3 1 (.slice (some ⟨w.heap.size, 0, none⟩) (n + 1) (n + 1)) (n + 1) xs ∧ RowIs xs s g n ∧ Below w.heap.size w w' := by
  obtain ⟨i0, hi, hz0, hz1, hz2⟩ := info_parts infoInt
  have H := Lib.hid h
  obtain ⟨a1, a2, a3, a4, a5, a6⟩ := h
  obtain ⟨N1, hN1⟩ : ∃ N1 : Nat, N1 = n + 1 := ⟨_, rfl⟩
  have eN1 : (n : Int) + 1 = (N1 : Int) := by omega
  rw [← hN1]
  have MF := Lib.hid (fun (wm : World) (hown : wm.ownsRow w.heap.size 3 1 (.slice (some ⟨w.heap.size, 0, none⟩) N1 N1) N1 (madeCells (Value.cells (.int .i64 0)) (N1 * 1)).toList) (hgrow : w.grownBy wm none) => made_facts (g := g) (u := .int .i64 (-1)) hown rfl hgrow (by omega))
  have HN1 := Lib.hid hN1
  clear hN1
  go_enter Tryz.func171, Tryz.ntmps171
  go_wp2_with (refine wpList_make_full _ rfl _ _ 61 rfl w.heap.size 3 i0 (.int .i64 0) 1 Tryz.underlying61 hi hz0 hz1 .i64 .i64 _ _ N1 rfl rfl rfl rfl (by rw [hz2]; omega) (by unfold maxLen; omega) (by simp) ?_; intro wm hown hgrow; obtain ⟨x0, ys, hl0, hg0, hc0, hf0, ho1, hb1⟩ := MF.out wm hown hgrow; clear hown hgrow)
  have hp0 : PutIs ys s g n 0 := by
    refine ⟨by rw [hl0]; exact HN1.out, fun p hp ho => ?_⟩
    have hb := occ_b s g n p H.out (by omega) (by omega)
    by_cases c : (p : Int) = g
    · obtain rfl : p = g := by omega
      rw [hg0]; unfold occ; rw [if_pos rfl]
    · have := slot_occ s g n p H.out (by omega) (by omega) c
      unfold occ at ho
      rw [if_neg c] at ho
      omega
  have hsz := hb1.size
  clear MF hc0 hf0 hg0 hl0
  generalize wm.setCell ⟨w.heap.size, g, none⟩ (.int .i64 (-1)) = wv at *
  go_loopw [8] (fun i wr => ∃ (k : Nat) (xs : List Value), k ≤ n ∧ i = .int .i64 k ∧ wr.ownsRow w.heap.size 3 1 (.slice (some ⟨w.heap.size, 0, none⟩) N1 N1) N1 xs ∧ PutIs xs s g n k ∧ Below w.heap.size w wr) (fun i _ => n - (intOf i).toNat)
  case atStart => exact ⟨0, ys, by omega, rfl, ho1, hp0, hb1⟩
  case round =>
    clear ho1 hp0 hb1
    obtain ⟨k, xs, hk, rfl, hown, hput, B2⟩ := hrel
    have hl : xs.length = n + 1 := hput.1
    by_cases hlt : k < n
    · have hsl := slot_ok s g n k H.out (by omega) (by omega)
      obtain ⟨p, hp⟩ := Int.eq_ofNat_of_zero_le hsl.1
      have hpn : p < N1 := by have := hsl.2.1; have := HN1.out; omega
      have hst := hown.stored p (.int .i64 (k : Int))
      have RR := Lib.hid (And.intro hst.1 (And.intro (hput.step H.out (by omega) hp) (B2.setCell (p := ⟨w.heap.size, p, none⟩) (by simp) (.int .i64 (k : Int)))))
      have hc := hown.cellAt p (by have := HN1.out; omega)
      rw [List.getElem?_eq_getElem (by have := HN1.out; omega)] at hc
      have hf := hown.frozenAt p
      have q1 := Int.emod_nonneg ((k : Int) + s) (show (n : Int) ≠ 0 by omega)
      have q2 := Int.emod_lt_of_pos ((k : Int) + s) (show 0 < (n : Int) by omega)
      obtain ⟨q, hq⟩ := Int.eq_ofNat_of_zero_le q1
      generalize xs[p] = u at *
      clear hst hsl hput hown B2 hl
      unfold slotI at hp
      rw [hq] at hp q2
      by_cases c : (q : Int) < g
      · rw [if_pos c] at hp
        obtain rfl : q = p := by omega
        have hd : decide ((g : Int) ≤ (q : Int)) = false := by simp; omega
        clear hp
        go_wp2
        go_roundw
        case rel => exact ⟨k + 1, _, by omega, by go_num, RR.out.1, RR.out.2.1, RR.out.2.2⟩
        case measure => simp [intOf]; omega
      · rw [if_neg c] at hp
        have hd : decide ((g : Int) ≤ (q : Int)) = true := by simp; omega
        go_wp2
        go_roundw
        case rel => exact ⟨k + 1, _, by omega, by go_num, RR.out.1, RR.out.2.1, RR.out.2.2⟩
        case measure => simp [intOf]; omega
    · obtain ⟨n', hn'⟩ : ∃ n', n' = n := ⟨_, rfl⟩
      have hkn : k = n := by omega
      have RR := Lib.hid (And.intro hown (And.intro (show PutIs xs s g n n by rw [← hkn]; rwa [hkn] at hput ⊢) B2))
      go_wp2
      go_ret
      exact ⟨xs, rfl, RR.out.1, RR.out.2.1.done H.out, RR.out.2.2⟩

end Go.Proofs.YtjbhallhmnahbaaGreat
