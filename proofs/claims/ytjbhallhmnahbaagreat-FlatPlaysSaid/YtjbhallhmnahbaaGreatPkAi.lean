/-
  Contracts of the reference functions of layer 1: each returns what the plain functions compute.
-/
import Derived.Test.YtjbhallhmnahbaaGreatPkAh

namespace Go.Proofs.YtjbhallhmnahbaaGreat
open Go.RowKit

def byteV (b : UInt8) : Value := .int .u8 (b.toNat : Int)
theorem infoU8 : (Tryz.prog.info? 5).map (fun i => (i.zero, i.size, i.bytes)) = some (some (.int .u8 0), 1, 1) := by kernel_rfl

theorem own_conv {w : World} {B n : Nat} {v : Value} {l : List UInt8} (h : w.ownsRow B 5 1 v n (l.map byteV)) :
    (convert 111 9 v).run Tryz.prog w = .ok (.string ⟨l.toArray⟩) w := by
  have hl : l.length = n := by simpa using h.1
  rcases h.2 with ⟨rfl, hn⟩ | ⟨g, cap, cur, rfl, _, hg, hle, _, hs, htake⟩
  · have : l = [] := List.length_eq_zero_iff.1 (by omega)
    subst this
    have e := run_convert_bytes_string (P := Tryz.prog) w 111 9 5 none 0 0 Tryz.underlying111 Tryz.underlying5 Tryz.underlying9
    rw [e]
    rfl
  · subst hl
    have e := run_convert_bytes_back (P := Tryz.prog) w 111 9 5 ⟨g, 0, none⟩ cap l Tryz.underlying111 Tryz.underlying5 Tryz.underlying9 (fun i hi => by
      have hc : w.cell? (Addr.add ⟨g, 0, none⟩ i) = cur[i]? := by
        have := cell_of_row w g i cur 5 (0, 0) hg
        unfold Addr.add
        split
        · rename_i h0; subst h0; exact this
        · simp [this]
      rw [hc]
      have h1 : (cur.toList.take (l.length * 1))[i]? = (l.map byteV)[i]? := by rw [htake]
      rw [List.getElem?_take_of_lt (by omega)] at h1
      simp [List.getElem?_eq_getElem hi] at h1
      rw [h1]; rfl)
    exact e

theorem putL_div (n k : Nat) : putL n (k + 1) = putL n k ++ [UInt8.ofNat (n / 256 ^ k % 256)] := putL_succ n k

set_option maxHeartbeats 1000000 in
set_option maxRecDepth 20000 in
theorem rput_any (n : Nat) (k : Int) (w : World) (hn : n < 18446744073709551616) (h0 : -9223372036854775808 ≤ k) (h1 : k ≤ 9223372036854775807) :
    Calls Tryz.prog 104 #[.int .u64 n, .int .i64 k] w fun e w' => e = .returned (.string ⟨(putL n (clamp8 k)).toArray⟩) ∧ Below w.heap.size w w' := by
  obtain ⟨i0, hi, hz0, hz1, hz2⟩ := info_parts infoU8
  have hc8 : clamp8 k = min k.toNat 8 := rfl
  have HC := Lib.hid hc8
  clear hc8
  go_enter Tryz.func104, Tryz.ntmps104
  go_wp2
  go_loopw [0, 5, 6] (fun q v i wr => ∃ j : Nat, j ≤ clamp8 k ∧ i = .int .i64 j ∧ q = .int .u64 (n / 256 ^ j : Nat) ∧ wr.ownsRow w.heap.size 5 1 v j ((putL n j).map byteV) ∧ Below w.heap.size w wr)
      (fun _ _ i _ => 8 - (intOf i).toNat)
  case atStart => exact ⟨0, by omega, rfl, by simp, World.ownsRow_nil _ _ _ _, Below.refl _ _⟩
  case round =>
    obtain ⟨j, hj, rfl, rfl, hown, hbel⟩ := hrel
    have hq : n / 256 ^ j < 18446744073709551616 := Nat.lt_of_le_of_lt (Nat.div_le_self _ _) hn
    have hcell : byteV (UInt8.ofNat (n / 256 ^ j % 256)) = .int .u8 ((n / 256 ^ j : Nat) % 256 : Int) := by
      unfold byteV; simp
    have HB := Lib.hid hcell
    have hdiv : ((n / 256 ^ j : Nat) : Int) / 256 = ((n / 256 ^ (j + 1) : Nat) : Int) := by
      rw [Nat.pow_succ, ← Nat.div_div_eq_div_mul]; rfl
    have HD := Lib.hid hdiv
    clear hcell hdiv
    generalize hqq : n / 256 ^ j = q at *
    have HQ := Lib.hid hqq
    clear hqq
    by_cases hlt : j < clamp8 k
    · have hk1 : (j : Int) < k := by have := HC.out; omega
      have hk2 : j < 8 := by have := HC.out; omega
      go_wp2_with (first
        | (at_builtin; refine wpList_append_own _ rfl _ _ 111 rfl w.heap.size 5 i0 (.int .u8 0) 1 1 Tryz.underlying111 hi hz0 hz1 hz2 rfl (by decide) _ _ _ rfl (hown.alloc _) ⟨wr.heap.size, 0, none⟩ 1 1 [.int .u8 ((q : Int) % 256)] rfl rfl ?c1 ?c2 ?c3 ?c4 ?c5 ?_))
      case c1 =>
        intro a u ha
        match a, ha with
        | 0, ha => simp at ha; subst ha; simp [Addr.add]
      case c2 => intro u hu; simp at hu; subst hu; rfl
      case c3 => unfold maxLen; omega
      case c4 => omega
      case c5 => have := hbel.size; simp; omega
      intro v' w1 hown' hgrow _
      have hrel' : w1.ownsRow w.heap.size 5 1 v' (j + 1) ((putL n (j + 1)).map byteV) ∧ Below w.heap.size w w1 := by
        refine ⟨?_, (hbel.alloc hbel.size _).grown hgrow (by have := hbel.size; simp; omega) (fun g hg => (hown.lt g hg).1)⟩
        rw [putL_div, HQ.out, List.map_append, List.map_cons, List.map_nil, HB.out]
        exact hown'
      clear hown' hgrow hown hbel
      have HR := Lib.hid hrel'
      clear hrel'
      go_wp2
      go_roundw
      case rel => exact ⟨j + 1, by omega, by go_num, by rw [HD.out], HR.out.1, HR.out.2⟩
      case measure => simp [intOf]; omega
    · have hej : j = clamp8 k := by omega
      have hfin := own_conv hown
      have hd : ¬ ((j : Int) < k) ∨ ((j : Int) < k ∧ j = 8) := by have := HC.out; omega
      have HE := Lib.hid hej
      clear hej hj hlt
      rcases hd with hd | ⟨hd, rfl⟩
      · go_wp2
        go_ret
        exact ⟨by rw [HE.out] <;> rfl, hbel⟩
      · go_wp2
        go_ret
        exact ⟨by rw [HE.out] <;> rfl, hbel⟩

theorem rget_round (s : ByteArray) (k : Nat) (h : k < s.size) (h8 : k < 8) :
    IntKind.u64.wrap (((getL (s.data.toList.take k) : Nat) : Int) + IntKind.u64.wrap (((p256 k : Nat) : Int) * IntKind.u64.wrap (s[k].toNat : Int))) = ((getL (s.data.toList.take (k + 1)) : Nat) : Int) := by
  have hl : k < s.data.toList.length := by simpa using h
  have e := getL_take_mul s.data.toList k hl
  have hb : s[k].toNat < 256 := s[k].toNat_lt
  have g := getL_take_lt s.data.toList (k + 1) (by omega)
  have es : s.data.toList[k] = s[k] := rfl
  rw [es] at e
  have w0 : IntKind.u64.wrap (s[k].toNat : Int) = (s[k].toNat : Int) := IntWalk.u64_in _ (by omega)
  have e' : getL (s.data.toList.take k) + p256 k * s[k].toNat = getL (s.data.toList.take (k + 1)) := e
  clear e
  rw [w0, ← Int.natCast_mul]
  generalize p256 k * s[k].toNat = z at *
  have w2 : IntKind.u64.wrap (z : Int) = (z : Int) := IntWalk.u64_in _ (by omega)
  rw [w2, IntWalk.u64_in _ (by omega)]
  omega

set_option maxHeartbeats 400000 in
set_option maxRecDepth 20000 in
theorem rget_any (s : ByteArray) (w : World) (hs : s.size ≤ maxLen) :
    Calls Tryz.prog 78 #[.string s] w fun e w' => e = .returned (.int .u64 (getL (s.data.toList.take 8) : Nat)) ∧ w = w' := by
  unfold maxLen at hs
  go_enter Tryz.func78, Tryz.ntmps78
  go_wp2
  go_loop [3, 4, 5] (fun n m i => ∃ k : Nat, k ≤ min s.size 8 ∧ i = .int .i64 k ∧ n = .int .u64 (getL (s.data.toList.take k) : Nat) ∧ m = .int .u64 (IntKind.u64.wrap (p256 k : Nat))) (fun _ _ i => 8 - (intOf i).toNat)
  case atStart => exact ⟨0, by omega, rfl, rfl, rfl⟩
  case round =>
    obtain ⟨k, hk, rfl, rfl, rfl⟩ := hrel
    by_cases hlt : k < min s.size 8
    · have hk1 : k < s.size := by omega
      have hk2 : k < 8 := by omega
      have hpl := p256_lt k hk2
      have hp : IntKind.u64.wrap ((p256 k : Nat) : Int) = ((p256 k : Nat) : Int) := IntWalk.u64_in _ (by omega)
      have hq : IntKind.u64.wrap (((p256 k : Nat) : Int) * 256) = IntKind.u64.wrap ((p256 (k + 1) : Nat) : Int) := by
        have : p256 (k + 1) = p256 k * 256 := Nat.pow_succ ..
        rw [this, Int.natCast_mul]; rfl
      have HF := Lib.hid (rget_round s k hk1 hk2)
      rw [hp]
      have HQ := Lib.hid hq
      clear hlt hp hq
      generalize p256 k = p at *
      go_wp2
      go_round
      case rel => exact ⟨k + 1, by omega, by go_num, by rw [HF.out], by rw [HQ.out]⟩
      case measure => simp [intOf]; omega
    · have hl : s.data.toList.length = s.size := by simp
      have hf : s.data.toList.take 8 = s.data.toList.take k := by
        by_cases c : k = 8
        · rw [c]
        · rw [List.take_of_length_le (by omega), List.take_of_length_le (by omega)]
      have HF := Lib.hid hf
      clear hf
      generalize IntKind.u64.wrap ((p256 k : Nat) : Int) = p
      have hd : ¬ k < s.size ∨ (k < s.size ∧ ¬ k < 8) := by omega
      rcases hd with hd | ⟨hd, hd2⟩
      · go_wp2
        go_ret
        exact ⟨by rw [HF.out] <;> rfl, rfl⟩
      · go_wp2
        go_ret
        exact ⟨by rw [HF.out] <;> rfl, rfl⟩

set_option maxHeartbeats 400000 in
theorem bit_any (n : Nat) (i : Int) (w : World) (hn : n < 18446744073709551616) (h0 : 0 ≤ i) (h1 : i ≤ 64) :
    Calls Tryz.prog 185 #[.int .u64 n, .int .i64 i] w fun e w' => e = .returned (.int .u64 (bitN n i.toNat : Nat)) ∧ w = w' := by
  obtain ⟨m, rfl⟩ := Int.eq_ofNat_of_zero_le h0
  rw [Int.toNat_natCast]
  go_enter Tryz.func185, Tryz.ntmps185
  go_wp2
  go_loop [0, 5] (fun q i => ∃ j : Nat, j ≤ m ∧ i = .int .i64 j ∧ q = .int .u64 (n / 2 ^ j : Nat)) (fun _ i => m - (intOf i).toNat)
  case atStart => exact ⟨0, by omega, rfl, by simp⟩
  case round =>
    obtain ⟨j, hj, rfl, rfl⟩ := hrel
    have hq : n / 2 ^ j < 18446744073709551616 := Nat.lt_of_le_of_lt (Nat.div_le_self _ _) hn
    have hd : ((n / 2 ^ j : Nat) : Int) / 2 = ((n / 2 ^ (j + 1) : Nat) : Int) := by
      rw [Nat.pow_succ, ← Nat.div_div_eq_div_mul]; rfl
    have hm : ((n / 2 ^ j : Nat) : Int) % 2 = ((bitN n j : Nat) : Int) := rfl
    have HD := Lib.hid hd
    have HM := Lib.hid hm
    clear hd hm
    by_cases hlt : j < m
    · generalize n / 2 ^ j = q at *
      go_wp2
      go_round
      case rel => exact ⟨j + 1, by omega, by go_num, by rw [HD.out]⟩
      case measure => simp [intOf]; omega
    · obtain rfl : j = m := by omega
      generalize n / 2 ^ j = q at *
      go_wp2
      go_ret
      exact ⟨by rw [← HM.out] <;> rfl, rfl⟩

set_option maxHeartbeats 400000 in
theorem may_yes (a k : Int) (w : World) (h : okF a k) :
    Calls Tryz.prog 184 #[.int .i64 a, .int .i64 k] w fun e w' => e = .returned (.bool true) ∧ w = w' := by
  obtain ⟨h0, h1, h2, h3⟩ := h
  go_enter Tryz.func184, Tryz.ntmps184
  go_wp2
  go_ret
  exact ⟨rfl, rfl⟩
set_option maxHeartbeats 400000 in
theorem may_no (a k : Int) (w : World) (h : ¬ okF a k) :
    Calls Tryz.prog 184 #[.int .i64 a, .int .i64 k] w fun e w' => e = .returned (.bool false) ∧ w = w' := by
  have hh : a < 0 ∨ (0 ≤ a ∧ 63 < a) ∨ (0 ≤ a ∧ a ≤ 63 ∧ k < 1) ∨ (0 ≤ a ∧ a ≤ 63 ∧ 1 ≤ k ∧ 64 - a < k) := by
    unfold okF at h; omega
  clear h
  rcases hh with h | ⟨h, h1⟩ | ⟨h, h1, h2⟩ | ⟨h, h1, h2, h3⟩
  all_goals
    go_enter Tryz.func184, Tryz.ntmps184
    go_wp2
    go_ret
    first | exact ⟨rfl, rfl⟩ | exact ⟨by simp; omega, rfl⟩

def topF (n : Nat) (m j : Nat) : Nat := n / 2 ^ m % 2 ^ j
theorem topF_step (n m j : Nat) (hj : j < 64) : IntKind.u64.wrap (IntKind.u64.wrap (2 * ((topF n (m + 1) j : Nat) : Int)) + ((bitN n m : Nat) : Int)) = ((topF n m (j + 1) : Nat) : Int) := by
  have e : 2 * topF n (m + 1) j + bitN n m = topF n m (j + 1) := by
    unfold topF bitN
    rw [Nat.pow_succ 2 m, ← Nat.div_div_eq_div_mul]
    exact bit_up _ _
  have hl : topF n m (j + 1) < 2 ^ (j + 1) := Nat.mod_lt _ (Nat.two_pow_pos _)
  have hl2 : (2 : Nat) ^ (j + 1) ≤ 2 ^ 64 := Nat.pow_le_pow_right (by omega) (by omega)
  rw [IntWalk.u64_in (2 * _) (by omega), IntWalk.u64_in _ (by omega)]
  omega
set_option maxHeartbeats 400000 in
theorem rfield_any (n : Nat) (a k : Int) (w : World) (hn : n < 18446744073709551616) :
    Calls Tryz.prog 155 #[.int .u64 n, .int .i64 a, .int .i64 k] w fun e w' => e = .returned (.int .u64 (fieldN n a k : Nat)) ∧ w = w' := by
  by_cases h : okF a k
  · have hh := Lib.hid h
    have hfin : fieldN n a k = topF n a.toNat k.toNat := by unfold fieldN; rw [if_pos h]; rfl
    have HFIN := Lib.hid hfin
    clear hfin
    obtain ⟨h0, h1, h2, h3⟩ := h
    obtain ⟨A, rfl⟩ := Int.eq_ofNat_of_zero_le h0
    obtain ⟨K, rfl⟩ := Int.eq_ofNat_of_zero_le (show 0 ≤ k by omega)
    rw [Int.toNat_natCast, Int.toNat_natCast] at HFIN
    go_enter Tryz.func155, Tryz.ntmps155
    go_wp2_with (go_at_call 184; refine (may_yes _ _ _ hh.out).mono ?_; rintro e w' ⟨rfl, rfl⟩)
    go_loop [8, 9] (fun q i => ∃ j : Nat, j ≤ K ∧ i = .int .i64 j ∧ q = .int .u64 (topF n (A + K - j) j : Nat)) (fun _ i => K - (intOf i).toNat)
    case atStart => exact ⟨0, by omega, rfl, by simp [topF, Nat.mod_one]⟩
    case round =>
      obtain ⟨j, hj, rfl, rfl⟩ := hrel
      by_cases hlt : j < K
      · have hs := topF_step n (A + K - 1 - j) j (by omega)
        rw [show A + K - 1 - j + 1 = A + K - j by omega] at hs
        have HS := Lib.hid hs
        clear hs
        go_wp2_with (go_at_call 185; refine (bit_any _ _ _ hn (by omega) (by omega)).mono ?_; rintro e w' ⟨rfl, rfl⟩)
        go_round
        case rel => exact ⟨j + 1, by omega, by go_num, by rw [HS.out, show A + K - (j + 1) = A + K - 1 - j by omega]⟩
        case measure => simp [intOf]; omega
      · obtain rfl : j = K := by omega
        rw [show A + j - j = A by omega]
        go_wp2
        go_ret
        exact ⟨by rw [HFIN.out] <;> rfl, rfl⟩
  · have hfin : fieldN n a k = 0 := by unfold fieldN; rw [if_neg h]
    rw [hfin]
    clear hfin
    have hh := Lib.hid h
    clear h
    go_enter Tryz.func155, Tryz.ntmps155
    go_wp2_with (go_at_call 184; refine (may_no _ _ _ hh.out).mono ?_; rintro e w' ⟨rfl, rfl⟩)
    go_rounds 1
    go_ret
    exact ⟨rfl, rfl⟩

end Go.Proofs.YtjbhallhmnahbaaGreat
