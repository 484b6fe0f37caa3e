/-
  Contracts of package le's functions: each returns what the plain functions of the file before compute.
-/
import Derived.Test.YtifekejcbhllpaaGreatSkAe
import Derived.Test.YtifekejcbhllpaaGreatRows
import Derived.WalkKit
import Derived.Handy
import Derived.Lib.Hide

namespace Go.Proofs.YtifekejcbhllpaaGreat
open Go.RowKit

set_option maxHeartbeats 400000 in
theorem mask_yes (a k : Int) (w : World) (h : okF a k) :
    Calls Tryz.prog 135 #[.int .i64 a, .int .i64 k] w fun e w' => e = .returned (.int .u64 (maskN a k : Nat)) ∧ w = w' := by
  have hm : maskN a k = (2 ^ k.toNat - 1) * 2 ^ a.toNat := by unfold maskN; rw [if_pos h]
  have hlt := maskN_lt a k
  have fin : IntKind.u64.wrap (18446744073709551615 / 2 ^ (64 - k).toNat * 2 ^ a.toNat) = ((maskN a k : Nat) : Int) := by
    obtain ⟨h0, h1, h2, h3⟩ := h
    have e1 : (18446744073709551615 / 2 ^ (64 - k).toNat : Int) = ((2 ^ k.toNat - 1 : Nat) : Int) := by
      obtain ⟨q, hq⟩ := Int.eq_ofNat_of_zero_le (show 0 ≤ k by omega)
      subst hq
      have e2 : (64 - (q : Int)).toNat = 64 - q := by omega
      rw [e2]
      have hq64 : q ≤ 64 := by omega
      have e3 : (18446744073709551615 : Nat) / 2 ^ (64 - q) = 2 ^ q - 1 := by
        have p1 : (2 : Nat) ^ 64 = 2 ^ q * 2 ^ (64 - q) := by rw [← Nat.pow_add]; congr 1; omega
        have p2 : 0 < 2 ^ (64 - q) := Nat.two_pow_pos _
        have p3 : 0 < 2 ^ q := Nat.two_pow_pos _
        have p4 : (18446744073709551615 : Nat) = 2 ^ 64 - 1 := rfl
        rw [p4, p1]
        generalize 2 ^ (64 - q) = y at *
        generalize 2 ^ q = x at *
        have e : x * y - 1 = (x - 1) * y + (y - 1) := by
          have : x * y = (x - 1) * y + y := by
            conv => lhs; rw [show x = (x - 1) + 1 by omega]
            rw [Nat.add_mul, Nat.one_mul]
          omega
        rw [e, Nat.add_comm, Nat.add_mul_div_right _ _ p2, Nat.div_eq_of_lt (by omega)]
        omega
      have e4 : ((18446744073709551615 : Nat) : Int) / ((2 ^ (64 - q) : Nat) : Int) = ((2 ^ q - 1 : Nat) : Int) := by
        rw [← Int.natCast_ediv, e3]
      have e5 : ((q : Int)).toNat = q := by omega
      rw [e5]
      simpa using e4
    have e6 : (18446744073709551615 / 2 ^ (64 - k).toNat * 2 ^ a.toNat : Int) = ((maskN a k : Nat) : Int) := by
      rw [e1, hm, Int.natCast_mul]
      simp
    rw [e6]
    exact IntWalk.u64_in _ (by omega)
  have H := Lib.hid fin
  clear fin hm
  have hh := Lib.hid h
  obtain ⟨h0, h1, h2, h3⟩ := h
  go_enter Tryz.func135, Tryz.ntmps135
  go_wp2
  go_ret
  exact ⟨by rw [H.out]; rfl, rfl⟩

set_option maxHeartbeats 400000 in
theorem mask_no (a k : Int) (w : World) (h : ¬ okF a k) (b : -9223372036854775808 ≤ a) (b' : a ≤ 9223372036854775807) :
    Calls Tryz.prog 135 #[.int .i64 a, .int .i64 k] w fun e w' => e = .returned (.int .u64 0) ∧ w = w' := by
  have hh : a < 0 ∨ (0 ≤ a ∧ 63 < a) ∨ (0 ≤ a ∧ a ≤ 63 ∧ k < 1) ∨ (0 ≤ a ∧ a ≤ 63 ∧ 1 ≤ k ∧ 64 - a < k) := by
    unfold okF at h; omega
  clear h
  rcases hh with h | ⟨h, h1⟩ | ⟨h, h1, h2⟩ | ⟨h, h1, h2, h3⟩
  all_goals
    go_enter Tryz.func135, Tryz.ntmps135
    go_wp2
    go_ret
    exact ⟨rfl, rfl⟩

set_option maxHeartbeats 400000 in
theorem field_any (n : Nat) (a k : Int) (w : World) (hn : n < 18446744073709551616) (b : -9223372036854775808 ≤ a) (b' : a ≤ 9223372036854775807) :
    Calls Tryz.prog 101 #[.int .u64 n, .int .i64 a, .int .i64 k] w fun e w' => e = .returned (.int .u64 (fieldN n a k : Nat)) ∧ w = w' := by
  by_cases h : okF a k
  · have hm := maskN_lt a k
    have fin : bits .and .u64 n (maskN a k : Nat) / 2 ^ a.toNat = ((fieldN n a k : Nat) : Int) := by
      rw [u64_and_nat n _ hn hm, ← fieldN_eq_and n a k h]; simp
    have e63 : bits .and .i64 a 63 = a := and63 a h.1 h.2.1
    have H := Lib.hid fin
    clear fin
    have h0 := h.1
    have h1 := h.2.1
    have hh := Lib.hid h
    clear h
    go_enter Tryz.func101, Tryz.ntmps101
    go_wp2_with (go_at_call 135; refine (mask_yes _ _ _ hh.out).mono ?_; rintro e w' ⟨rfl, rfl⟩)
    go_ret
    exact ⟨by rw [H.out]; rfl, rfl⟩
  · have hb := and63_bounds a
    have fin : (bits .and .u64 n 0 / 2 ^ (bits .and .i64 a 63).toNat) = ((fieldN n a k : Nat) : Int) := by
      have := u64_and_nat n 0 hn (by omega)
      rw [show (0 : Int) = ((0 : Nat) : Int) from rfl, this]
      unfold fieldN; rw [if_neg h]; simp
    have H := Lib.hid fin
    clear fin
    have hh := Lib.hid h
    clear h
    go_enter Tryz.func101, Tryz.ntmps101
    go_wp2_with (go_at_call 135; refine (mask_no _ _ _ hh.out b b').mono ?_; rintro e w' ⟨rfl, rfl⟩)
    go_ret
    exact ⟨by rw [H.out]; rfl, rfl⟩

set_option maxHeartbeats 400000 in
theorem with_any (n : Nat) (a k : Int) (v : Nat) (w : World) (hn : n < 18446744073709551616) (b : -9223372036854775808 ≤ a) (b' : a ≤ 9223372036854775807) :
    Calls Tryz.prog 126 #[.int .u64 n, .int .i64 a, .int .i64 k, .int .u64 v] w fun e w' => e = .returned (.int .u64 (withN n a k v : Nat)) ∧ w = w' := by
  have wr : ∀ s : Nat, IntKind.u64.wrap ((v : Int) * 2 ^ s) = ((v * 2 ^ s % 18446744073709551616 : Nat) : Int) := by
    intro s; rw [IntKind.wrap_u64]; simp
  by_cases h : okF a k
  · have hm := maskN_lt a k
    have fin : bits .or .u64 (bits .andNot .u64 n (maskN a k : Nat)) (bits .and .u64 (IntKind.u64.wrap ((v : Int) * 2 ^ a.toNat)) (maskN a k : Nat)) = ((withN n a k v : Nat) : Int) := by
      rw [wr, u64_andNot_nat n _ hn hm, u64_and_nat _ _ (Nat.mod_lt _ (by omega)) hm, u64_or_nat, withN_eq_or n a k v h hn]
      · exact Nat.lt_of_le_of_lt Nat.and_le_left hn
      · exact Nat.lt_of_le_of_lt Nat.and_le_left (Nat.mod_lt _ (by omega))
    have e63 : bits .and .i64 a 63 = a := and63 a h.1 h.2.1
    have H := Lib.hid fin
    clear fin wr
    have h0 := h.1
    have h1 := h.2.1
    have hh := Lib.hid h
    clear h
    go_enter Tryz.func126, Tryz.ntmps126
    go_wp2_with (go_at_call 135; refine (mask_yes _ _ _ hh.out).mono ?_; rintro e w' ⟨rfl, rfl⟩)
    go_ret
    exact ⟨by rw [H.out]; rfl, rfl⟩
  · have hb := and63_bounds a
    have fin : ∀ s : Nat, bits .or .u64 (bits .andNot .u64 n 0) (bits .and .u64 (IntKind.u64.wrap ((v : Int) * 2 ^ s)) 0) = ((withN n a k v : Nat) : Int) := by
      intro s
      have z : (0 : Int) = ((0 : Nat) : Int) := rfl
      have f64 : n &&& 18446744073709551615 = n := by
        rw [show (18446744073709551615 : Nat) = 2 ^ 64 - 1 from rfl, Nat.and_two_pow_sub_one_eq_mod]; omega
      rw [wr, z, u64_andNot_nat n 0 hn (by omega), u64_and_nat _ 0 (Nat.mod_lt _ (by omega)) (by omega), u64_or_nat]
      · unfold withN; rw [if_neg h]; simp [f64]
      · exact Nat.lt_of_le_of_lt Nat.and_le_left hn
      · simp
    have H := Lib.hid fin
    clear fin wr
    have hh := Lib.hid h
    clear h
    go_enter Tryz.func126, Tryz.ntmps126
    go_wp2_with (go_at_call 135; refine (mask_no _ _ _ hh.out b b').mono ?_; rintro e w' ⟨rfl, rfl⟩)
    go_ret
    exact ⟨by rw [H.out]; rfl, rfl⟩


theorem get_round (s : ByteArray) (k : Nat) (h : k < s.size) (h8 : k < 8) :
    bits .or .u64 ((getL (s.data.toList.take k) : Nat) : Int) (IntKind.u64.wrap (IntKind.u64.wrap (s[k].toNat : Int) * 2 ^ (8 * k))) = ((getL (s.data.toList.take (k + 1)) : Nat) : Int) := by
  have hl : k < s.data.toList.length := by simpa using h
  have e := getL_or s.data.toList k hl
  have hb : s[k].toNat < 256 := s[k].toNat_lt
  have g := getL_take_lt s.data.toList (k + 1) (by omega)
  have g0 := getL_take_lt s.data.toList k (by omega)
  have es : s.data.toList[k] = s[k] := rfl
  have e2 : s[k].toNat * 2 ^ (8 * k) < 18446744073709551616 := by
    have p1 : s[k].toNat * 2 ^ (8 * k) < 256 * 2 ^ (8 * k) := Nat.mul_lt_mul_of_pos_right hb (Nat.two_pow_pos _)
    have p2 : 256 * 2 ^ (8 * k) = 2 ^ (8 + 8 * k) := by rw [Nat.pow_add]
    have p3 : 2 ^ (8 + 8 * k) ≤ 2 ^ 64 := Nat.pow_le_pow_right (by omega) (by omega)
    omega
  have w0 : IntKind.u64.wrap (s[k].toNat : Int) = (s[k].toNat : Int) := IntWalk.u64_in _ (by omega)
  have w1 : IntKind.u64.wrap ((s[k].toNat : Int) * 2 ^ (8 * k)) = ((s[k].toNat * 2 ^ (8 * k) : Nat) : Int) := by
    have c : ((s[k].toNat : Int) * 2 ^ (8 * k)) = ((s[k].toNat * 2 ^ (8 * k) : Nat) : Int) := by push_cast; rfl
    rw [c, IntKind.wrap_u64]; omega
  rw [w0, w1, u64_or_nat _ _ g0 e2, ← e, es]

set_option maxHeartbeats 400000 in
theorem get_any (s : ByteArray) (w : World) (hs : s.size ≤ maxLen) :
    Calls Tryz.prog 16 #[.string s] w fun e w' => e = .returned (.int .u64 (getL (s.data.toList.take 8) : Nat)) ∧ w = w' := by
  unfold maxLen at hs
  by_cases h8 : s.size ≤ 8
  all_goals
    go_enter Tryz.func16, Tryz.ntmps16
    go_wp2
    go_loop [3, 8] (fun n i => ∃ k : Nat, k ≤ min s.size 8 ∧ i = .int .i64 k ∧ n = .int .u64 (getL (s.data.toList.take k) : Nat)) (fun _ i => 8 - (intOf i).toNat)
    case atStart => exact ⟨0, by omega, rfl, rfl⟩
    case round =>
      obtain ⟨k, hk, rfl, rfl⟩ := hrel
      by_cases hlt : k < min s.size 8
      · have hk1 : k < s.size := by omega
        have hk2 : k < 8 := by omega
        have HF := Lib.hid (get_round s k hk1 hk2)
        clear hlt
        go_wp2
        go_round
        case rel => exact ⟨k + 1, by omega, by go_num, by rw [HF.out]⟩
        case measure => simp [intOf]; omega
      · have hf : s.data.toList.take 8 = s.data.toList.take k := by
          have hl : s.data.toList.length = s.size := by simp
          by_cases c : k = 8
          · rw [c]
          · rw [List.take_of_length_le (by omega), List.take_of_length_le (by omega)]
        have HF := Lib.hid hf
        clear hf
        have hk1 : ¬ k < s.size ∨ k = 8 := by omega
        go_wp2
        go_ret
        exact ⟨by rw [HF.out]; rfl, rfl⟩

/-- The bytes of a number in the array that Put fills. -/
def putCells (n : Nat) : Array Value :=
  #[.int .u8 ((n : Int) % 256), .int .u8 ((n : Int) / 256 % 256), .int .u8 ((n : Int) / 65536 % 256), .int .u8 ((n : Int) / 16777216 % 256),
    .int .u8 ((n : Int) / 4294967296 % 256), .int .u8 ((n : Int) / 1099511627776 % 256), .int .u8 ((n : Int) / 281474976710656 % 256), .int .u8 ((n : Int) / 72057594037927936)]
theorem putCells_at (n : Nat) (hn : n < 18446744073709551616) (i : Nat) (hi : i < 8) : (putCells n)[i]? = some (.int .u8 ((n / 256 ^ i % 256 : Nat) : Int)) := by
  have h7 : n / 72057594037927936 % 256 = n / 72057594037927936 := by omega
  have hi' : i = 0 ∨ i = 1 ∨ i = 2 ∨ i = 3 ∨ i = 4 ∨ i = 5 ∨ i = 6 ∨ i = 7 := by omega
  rcases hi' with rfl | rfl | rfl | rfl | rfl | rfl | rfl | rfl <;> simp [putCells] <;> omega
theorem put_conv (n : Nat) (hn : n < 18446744073709551616) (w : World) (j c : Nat) (hj : j ≤ 8) :
    (convert 74 9 (.slice (some ⟨w.heap.size, 0, none⟩) j c)).run Tryz.prog (w.alloc (.cells (putCells n) 91)) = .ok (.string ⟨(putL n j).toArray⟩) (w.alloc (.cells (putCells n) 91)) := by
  have h := run_convert_bytes_back (P := Tryz.prog) (w.alloc (.cells (putCells n) 91)) 74 9 5 ⟨w.heap.size, 0, none⟩ c (putL n j) Tryz.underlying74 Tryz.underlying5 Tryz.underlying9 (fun i hi => by
    have hi8 : i < j := by simpa [putL_length] using hi
    have e : (w.alloc (.cells (putCells n) 91)).cell? (Addr.add ⟨w.heap.size, 0, none⟩ i) = (putCells n)[i]? := by
      have := cell_of_row (w.alloc (.cells (putCells n) 91)) w.heap.size i (putCells n) 91 (0, 0) (heap_alloc_new w _)
      unfold Addr.add
      split
      · rename_i h0; subst h0; exact this
      · simp [this]
    rw [e, putCells_at n hn i (by omega), putL_getElem]
    simp)
  rw [putL_length] at h
  exact h

theorem len8 : Tryz.prog.arrayLen 91 = 8 := by kernel_rfl
theorem und8 : Tryz.prog.underlying 91 = some (.array (Tryz.prog.arrayLen 91) (Tryz.prog.elem 91)) := by kernel_rfl
theorem siz8 (w : World) : (sizeOf (Tryz.prog.elem 91)).run Tryz.prog w = .ok 1 w := by kernel_rfl
theorem put_slice (b j : Nat) (hj : j ≤ 8) (W : World) :
    (Instr.sliceAt 91 (.pointer (some ⟨b, 0, none⟩)) none (some (.int .i64 (j : Int))) none).run Tryz.prog W = .ok (.slice (some ⟨b, 0, none⟩) j 8) W := by
  rw [run_sliceAt_array_h W 91 _ und8 .i64 (j : Int) (by omega) (by rw [len8]; omega), siz8, len8]
  simp [Result.andThen, slicedAt, Addr.add]
set_option maxHeartbeats 1000000 in
theorem put_any (n : Nat) (k : Int) (w : World) (hn : n < 18446744073709551616) :
    Calls Tryz.prog 15 #[.int .u64 n, .int .i64 k] w fun e w' => e = .returned (.string ⟨(putL n (clamp8 k)).toArray⟩) ∧ Below w.heap.size w w' := by
  have hc : (k < 0 ∧ clamp8 k = 0) ∨ (∃ j : Nat, k = j ∧ 1 ≤ j ∧ j < 8 ∧ clamp8 k = j) ∨ (k = 0 ∧ clamp8 k = 0) ∨ (k = 8 ∧ clamp8 k = 8) ∨ (8 < k ∧ clamp8 k = 8) := by
    unfold clamp8
    by_cases h : k < 0
    · exact Or.inl ⟨h, by omega⟩
    · by_cases h8 : 1 ≤ k ∧ k < 8
      · exact Or.inr (Or.inl ⟨k.toNat, by omega, by omega, by omega, by omega⟩)
      · omega
  rcases hc with ⟨h, e⟩ | ⟨j, rfl, h, h8, e⟩ | ⟨rfl, e⟩ | ⟨rfl, e⟩ | ⟨h, e⟩
  · rw [e]
    have hcv := put_conv n hn w 0 8 (by omega)
    unfold putCells at hcv
    clear e
    go_enter Tryz.func15, Tryz.ntmps15
    go_wp2
    go_rounds 9
    go_ret
    exact ⟨rfl, by go_grown⟩
  · rw [e]
    have hcv := put_conv n hn w j 8 (by omega)
    have hsl := put_slice w.heap.size j (by omega)
    unfold putCells at hcv
    clear e
    go_enter Tryz.func15, Tryz.ntmps15
    go_wp2
    go_rounds 9
    go_ret
    exact ⟨rfl, by go_grown⟩
  · rw [e]
    have hcv := put_conv n hn w 0 8 (by omega)
    unfold putCells at hcv
    clear e
    go_enter Tryz.func15, Tryz.ntmps15
    go_wp2
    go_rounds 9
    go_ret
    exact ⟨rfl, by go_grown⟩
  · rw [e]
    have hcv := put_conv n hn w 8 8 (by omega)
    unfold putCells at hcv
    clear e
    go_enter Tryz.func15, Tryz.ntmps15
    go_wp2
    go_rounds 9
    go_ret
    exact ⟨rfl, by go_grown⟩
  · rw [e]
    have hcv := put_conv n hn w 8 8 (by omega)
    unfold putCells at hcv
    clear e
    go_enter Tryz.func15, Tryz.ntmps15
    go_wp2
    go_rounds 9
    go_ret
    exact ⟨rfl, by go_grown⟩

end Go.Proofs.YtifekejcbhllpaaGreat
