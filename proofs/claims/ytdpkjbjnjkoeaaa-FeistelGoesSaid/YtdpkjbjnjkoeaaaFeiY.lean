/-
  The document's own answer for layer 8: turn and To.
-/
import Derived.Test.YtdpkjbjnjkoeaaaFeiX
namespace Go.Proofs.Ytdpkjbjnjkoeaaa
open Go.RowKit

def kl (key : Nat) : List Nat := [keyN key 0, keyN key 1, keyN key 2, keyN key 3]
theorem kl_get (key k : Nat) (hk : k < 4) : (kl key)[k]? = some (keyN key k) := by
  have hc : k = 0 ∨ k = 1 ∨ k = 2 ∨ k = 3 := by omega
  rcases hc with rfl | rfl | rfl | rfl <;> rfl
theorem kl_keys (key : Nat) : ∀ k ∈ kl key, k < 65536 := by
  intro k hk
  unfold kl at hk
  simp only [List.mem_cons, List.not_mem_nil, or_false] at hk
  rcases hk with rfl | rfl | rfl | rfl <;> exact keyN_lt _ _

set_option maxRecDepth 20000 in
set_option maxHeartbeats 2000000 in
theorem rturn (n h key : Nat) (w : World) (h1 : 1 ≤ h) (h2 : h ≤ 7) (hn : n < 2 ^ h * 2 ^ h) (hkey : key < 18446744073709551616) :
    Calls Try.prog 50 #[.int .i64 n, .int .i64 h, .int .u64 key] w fun e w' => e = .returned (.int .i64 ((turnN h (kl key) n : Nat) : Int)) ∧ w = w' := by
  have HP := Lib.hid (fun w => rpow h w h2)
  have hin := spl_in hn
  have hfin : turnN h (kl key) n = joi h (rds h (kl key) (spl h n)) := rfl
  have HT := Lib.hid hfin
  have hp7 : 2 ^ h ≤ 2 ^ 7 := Nat.pow_le_pow_right (by omega) h2
  have hpp : 0 < 2 ^ h := Nat.two_pow_pos h
  have hn14 : n < 2147483648 := by
    have : 2 ^ h * 2 ^ h ≤ 2 ^ 7 * 2 ^ 7 := Nat.mul_le_mul hp7 hp7
    omega
  obtain ⟨l0, r0, hl0, hr0, hs0⟩ : ∃ l0 r0 : Nat, n / 2 ^ h = l0 ∧ n % 2 ^ h = r0 ∧ spl h n = (l0, r0) := ⟨_, _, rfl, rfl, rfl⟩
  rw [hs0] at hin
  have HS := Lib.hid hs0
  obtain ⟨P, hPe⟩ : ∃ P, 2 ^ h = P := ⟨_, rfl⟩
  rw [hPe] at HP hp7 hpp hl0 hr0
  have el : (n : Int) / (P : Int) = (l0 : Int) := by rw [← hl0]; push_cast; rfl
  have er : (n : Int) % (P : Int) = (r0 : Int) := by rw [← hr0]; push_cast; rfl
  have HPe := Lib.hid hPe
  have HI := Lib.hid hin
  clear hfin hn hs0 hPe hin hl0 hr0
  have hP0 : (P : Int) ≠ 0 := by omega
  have hll : l0 < P := by have := HI.out.1; rw [HPe.out] at this; exact this
  go_enter Try.func50, Try.ntmps50
  go_wp2_with fail
  refine (HP.out _).mono ?_
  rintro e w1 ⟨rfl, rfl⟩
  go_wp2_with fail
  try rw [er]
  clear el er
  go_loopg [2, 8, 9, 10] 4 (fun g kv l r i wr => ∃ (k K : Nat) (p : Nat × Nat), g + k = 4 ∧ K = key / 65536 ^ k ∧ p = rds h ((kl key).take k) (l0, r0) ∧ inH h p ∧ kv = .int .u64 K ∧ l = .int .i64 (p.1 : Nat) ∧ r = .int .i64 (p.2 : Nat) ∧ i = .int .i64 k ∧ w = wr)
  case atStart => exact ⟨0, key, (l0, r0), by omega, by simp, rfl, HI.out, rfl, rfl, rfl, rfl, rfl⟩
  case round =>
    obtain ⟨k, K, p, hk, hK, hp, hin, rfl, rfl, rfl, rfl, rfl⟩ := hrel
    obtain ⟨l, r⟩ := p
    have hin1 : l < P := by have := hin.1; rw [HPe.out] at this; exact this
    have hin2 : r < P := by have := hin.2; rw [HPe.out] at this; exact this
    have hKl : K < 18446744073709551616 := by rw [hK]; exact Nat.lt_of_le_of_lt (Nat.div_le_self _ _) hkey
    have HP2 := Lib.hid (And.intro hp hin)
    clear hp hin
    by_cases hlt : k < 4
    · have hkq : K % 65536 = keyN key k := by unfold keyN; rw [← hK]
      have hnx := rds_next h (kl key) k (keyN key k) (kl_get key k hlt) (l0, r0)
      rw [← HP2.out.1] at hnx
      have hq := keyN_lt key k
      have hkN : key / 65536 ^ (k + 1) = K / 65536 := by rw [Nat.pow_succ, ← Nat.div_div_eq_div_mul, ← hK]
      generalize keyN key k = q at *
      have hrd : rd h q (l, r) = (r, l ^^^ mixN r q h) := rfl
      rw [hrd] at hnx
      have hin3 : inH h (r, l ^^^ mixN r q h) := rd_in (k := q) HP2.out.2
      have hm := mixN_lt r q h
      rw [HPe.out] at hm
      have HM := Lib.hid (fun w => rmix r q h w (by omega) hq h2)
      have HX := Lib.hid (fun w => rxor l (mixN r q h) w (by omega) (by omega))
      generalize mixN r q h = mm at *
      generalize l ^^^ mm = xx at *
      have HN := Lib.hid (And.intro hk (And.intro hkN (And.intro hnx hin3)))
      have eq1 : (K : Int) % 65536 = (q : Int) := by omega
      clear hk hkN hnx hin3 hK hrd hm hkq
      go_wp2_with fail
      refine (HM.out _).mono ?_
      rintro e w2 ⟨rfl, rfl⟩
      go_wp2_with fail
      refine (HX.out _).mono ?_
      rintro e w2 ⟨rfl, rfl⟩
      go_wp2_with fail
      go_roundg (gk - 1)
      case measure => have := HN.out.1; omega
      case rel => exact ⟨k + 1, K / 65536, (r, xx), by have := HN.out.1; omega, HN.out.2.1.symm, HN.out.2.2.1.symm, HN.out.2.2.2, by go_num, rfl, rfl, by go_num, rfl⟩
    · obtain rfl : k = 4 := by omega
      have hb : l * P < 16384 := by
        calc l * P < P * P := Nat.mul_lt_mul_of_pos_right hin1 hpp
          _ ≤ 2 ^ 7 * 2 ^ 7 := Nat.mul_le_mul hp7 hp7
      obtain ⟨LP, hLP, hLPe⟩ : ∃ LP : Nat, (l : Int) * (P : Int) = (LP : Int) ∧ LP = l * P := ⟨l * P, by push_cast; rfl, rfl⟩
      have hLb : LP < 16384 := by omega
      have HL := Lib.hid hLPe
      clear hLPe hk hK hb
      go_wp2_with fail
      have e4 : turnN h (kl key) n = LP + r := by
        rw [HT.out, HS.out, HL.out]
        have : rds h (kl key) (l0, r0) = (l, r) := HP2.out.1.symm
        rw [this]
        unfold joi
        rw [HPe.out]
      go_ret
      exact ⟨by rw [e4] <;> rfl, rfl⟩

set_option maxHeartbeats 2000000 in
theorem rto (m key i j : Nat) (w : World) (h1 : 1 ≤ m) (h2 : m ≤ 8192) (hkey : key < 18446744073709551616) (hi : i < m) (hf : FB (turnN (halfN m) (kl key)) m i j) :
    Calls Try.prog 16 #[.int .i64 m, .int .u64 key, .int .i64 i] w fun e w' => e = .returned (.int .i64 j) ∧ w = w' := by
  obtain ⟨hh1, hh2, hh3⟩ := halfN_b m h2
  have HH := Lib.hid (fun w => rhalf m w h1 h2)
  obtain ⟨D, hD, hj, hjm, hall⟩ := hf
  have HC := Lib.hid (fun (n : Nat) (w : World) (hn : n < 2 ^ halfN m * 2 ^ halfN m) => rturn n (halfN m) key w hh1 hh2 hn hkey)
  have HL := Lib.hid (fun s => iter_lt (f := turnN (halfN m) (kl key)) (M := 2 ^ halfN m * 2 ^ halfN m) (fun x hx => turnN_lt (kl key) hx) s i (by omega))
  have HA := Lib.hid hall
  have HJ := Lib.hid hj
  have HS := Lib.hid hh3
  clear hall hj hh1 hh2 hh3 hkey
  generalize halfN m = h at *
  go_enter Try.func16, Try.ntmps16
  go_wp2_with fail
  refine (HH.out _).mono ?_
  rintro e w1 ⟨rfl, rfl⟩
  go_wp2_with fail
  refine (HC.out i _ (by have := HS.out; omega)).mono ?_
  rintro e w1 ⟨rfl, rfl⟩
  have HP : Pl (turnN h (kl key)) i D (D - 1) (turnN h (kl key) i) := ⟨1, Nat.le_refl _, by omega, rfl⟩
  have HB0 := Lib.hid (HL.out 1)
  have e1 : iter (turnN h (kl key)) 1 i = turnN h (kl key) i := rfl
  rw [e1] at HB0
  clear e1
  generalize turnN h (kl key) i = x0 at *
  go_wp2_with fail
  go_loopg [2] (D - 1) (fun g x wr => ∃ (y : Nat), g < D ∧ x = .int .i64 y ∧ Pl (turnN h (kl key)) i D g y ∧ w = wr)
  case atStart => exact ⟨x0, by omega, rfl, HP, rfl⟩
  case round =>
    clear HP HB0
    obtain ⟨y, hkD, rfl, hpl, rfl⟩ := hrel
    obtain ⟨s, hs1, hs2', hy⟩ := hpl
    have hyl : y < 2 ^ h * 2 ^ h := by rw [hy]; exact HL.out s
    have HY := Lib.hid hy
    by_cases hk0 : gk = 0
    · have hyj : y = j := by
        have := HJ.out
        obtain rfl : s = D := by omega
        rw [hy, this]
      have hlt : y < m := by omega
      have HB := Lib.hid hyj
      clear hyj hk0 hs2' hy hyl
      go_wp2_with fail
      go_ret
      exact ⟨by rw [HB.out]; rfl, rfl⟩
    · have hge : m ≤ y := by rw [hy]; exact HA.out s hs1 (by omega)
      clear hy
      have HN := Lib.hid (show Pl (turnN h (kl key)) i D (gk - 1) (turnN h (kl key) y) from ⟨s + 1, by omega, by omega, by rw [HY.out]; rfl⟩)
      have HCy := Lib.hid (fun w => HC.out y w hyl)
      generalize turnN h (kl key) y = x1 at HN HCy
      have HQ := Lib.hid hs2'
      clear hs2' hyl
      go_wp2_with fail
      refine (HCy.out _).mono ?_
      rintro e w2 ⟨rfl, rfl⟩
      go_wp2
      go_roundg (gk - 1)
      case measure => omega
      case rel => exact ⟨x1, by omega, rfl, HN.out, rfl⟩

end Go.Proofs.Ytdpkjbjnjkoeaaa
