/-
  Contracts of package le's functions: each returns what the plain functions of the file before compute.
-/
import Derived.Test.YtefiapmgdjlnnaaDoorDnAb
import Derived.Test.YtefiapmgdjlnnaaDoorRows
import Derived.WalkKit
import Derived.Handy
import Derived.Lib.Hide

namespace Go.Proofs.YtefiapmgdjlnnaaDoor
open Go.RowKit

theorem get_round (s : ByteArray) (k : Nat) (h : k < s.size) (h8 : k < 8) :
    bits .or .u64 ((getL (s.data.toList.take k) : Nat) : Int) (IntKind.u64.wrap (IntKind.u64.wrap (s[k].toNat : Int) * 2 ^ (8 * k))) = ((getL (s.data.toList.take (k + 1)) : Nat) : Int) := by
  have hl : k < s.data.toList.length := by simpa using h
  have e := getL_or s.data.toList k hl
  have hb : s[k].toNat < 256 := s[k].toNat_lt
  have g := getL_take_lt s.data.toList (k + 1) (by omega)
  have g0 := getL_take_lt s.data.toList k (by omega)
  have es : s.data.toList[k] = s[k] := rfl
  have e2 : s[k].toNat * 2 ^ (8 * k) < 18446744073709551616 := by
    have p1 : s[k].toNat * 2 ^ (8 * k) < 256 * 2 ^ (8 * k) := Nat.mul_lt_mul_of_pos_right hb (Nat.two_pow_pos _)
    have p2 : 256 * 2 ^ (8 * k) = 2 ^ (8 + 8 * k) := by rw [Nat.pow_add]
    have p3 : 2 ^ (8 + 8 * k) ≤ 2 ^ 64 := Nat.pow_le_pow_right (by omega) (by omega)
    omega
  have w0 : IntKind.u64.wrap (s[k].toNat : Int) = (s[k].toNat : Int) := IntWalk.u64_in _ (by omega)
  have w1 : IntKind.u64.wrap ((s[k].toNat : Int) * 2 ^ (8 * k)) = ((s[k].toNat * 2 ^ (8 * k) : Nat) : Int) := by
    have c : ((s[k].toNat : Int) * 2 ^ (8 * k)) = ((s[k].toNat * 2 ^ (8 * k) : Nat) : Int) := by push_cast; rfl
    rw [c, IntKind.wrap_u64]; omega
  rw [w0, w1, u64_or_nat _ _ g0 e2, ← e, es]

set_option maxHeartbeats 400000 in
theorem get_any (s : ByteArray) (w : World) (hs : s.size ≤ maxLen) :
    Calls Tryd.prog 37 #[.string s] w fun e w' => e = .returned (.int .u64 (getL (s.data.toList.take 8) : Nat)) ∧ w = w' := by
  unfold maxLen at hs
  by_cases h8 : s.size ≤ 8
  all_goals
    go_enter Tryd.func37, Tryd.ntmps37
    go_wp2
    go_loop [3, 8] (fun n i => ∃ k : Nat, k ≤ min s.size 8 ∧ i = .int .i64 k ∧ n = .int .u64 (getL (s.data.toList.take k) : Nat)) (fun _ i => 8 - (intOf i).toNat)
    case atStart => exact ⟨0, by omega, rfl, rfl⟩
    case round =>
      obtain ⟨k, hk, rfl, rfl⟩ := hrel
      by_cases hlt : k < min s.size 8
      · have hk1 : k < s.size := by omega
        have hk2 : k < 8 := by omega
        have HF := Lib.hid (get_round s k hk1 hk2)
        clear hlt
        go_wp2
        go_round
        case rel => exact ⟨k + 1, by omega, by go_num, by rw [HF.out]⟩
        case measure => simp [intOf]; omega
      · have hf : s.data.toList.take 8 = s.data.toList.take k := by
          have hl : s.data.toList.length = s.size := by simp
          by_cases c : k = 8
          · rw [c]
          · rw [List.take_of_length_le (by omega), List.take_of_length_le (by omega)]
        have HF := Lib.hid hf
        clear hf
        have hk1 : ¬ k < s.size ∨ k = 8 := by omega
        go_wp2
        go_ret
        exact ⟨by rw [HF.out]; rfl, rfl⟩

/-- The bytes of a number in the array that Put fills. -/
def putCells (n : Nat) : Array Value :=
  #[.int .u8 ((n : Int) % 256), .int .u8 ((n : Int) / 256 % 256), .int .u8 ((n : Int) / 65536 % 256), .int .u8 ((n : Int) / 16777216 % 256),
    .int .u8 ((n : Int) / 4294967296 % 256), .int .u8 ((n : Int) / 1099511627776 % 256), .int .u8 ((n : Int) / 281474976710656 % 256), .int .u8 ((n : Int) / 72057594037927936)]
theorem putCells_at (n : Nat) (hn : n < 18446744073709551616) (i : Nat) (hi : i < 8) : (putCells n)[i]? = some (.int .u8 ((n / 256 ^ i % 256 : Nat) : Int)) := by
  have h7 : n / 72057594037927936 % 256 = n / 72057594037927936 := by omega
  have hi' : i = 0 ∨ i = 1 ∨ i = 2 ∨ i = 3 ∨ i = 4 ∨ i = 5 ∨ i = 6 ∨ i = 7 := by omega
  rcases hi' with rfl | rfl | rfl | rfl | rfl | rfl | rfl | rfl <;> simp [putCells] <;> omega
theorem put_conv (n : Nat) (hn : n < 18446744073709551616) (w : World) (j c : Nat) (hj : j ≤ 8) :
    (convert 81 9 (.slice (some ⟨w.heap.size, 0, none⟩) j c)).run Tryd.prog (w.alloc (.cells (putCells n) 80)) = .ok (.string ⟨(putL n j).toArray⟩) (w.alloc (.cells (putCells n) 80)) := by
  have h := run_convert_bytes_back (P := Tryd.prog) (w.alloc (.cells (putCells n) 80)) 81 9 5 ⟨w.heap.size, 0, none⟩ c (putL n j) Tryd.underlying81 Tryd.underlying5 Tryd.underlying9 (fun i hi => by
    have hi8 : i < j := by simpa [putL_length] using hi
    have e : (w.alloc (.cells (putCells n) 80)).cell? (Addr.add ⟨w.heap.size, 0, none⟩ i) = (putCells n)[i]? := by
      have := cell_of_row (w.alloc (.cells (putCells n) 80)) w.heap.size i (putCells n) 80 (0, 0) (heap_alloc_new w _)
      unfold Addr.add
      split
      · rename_i h0; subst h0; exact this
      · simp [this]
    rw [e, putCells_at n hn i (by omega), putL_getElem]
    simp)
  rw [putL_length] at h
  exact h

theorem len8 : Tryd.prog.arrayLen 80 = 8 := by kernel_rfl
theorem und8 : Tryd.prog.underlying 80 = some (.array (Tryd.prog.arrayLen 80) (Tryd.prog.elem 80)) := by kernel_rfl
theorem siz8 (w : World) : (sizeOf (Tryd.prog.elem 80)).run Tryd.prog w = .ok 1 w := by kernel_rfl
theorem put_slice (b j : Nat) (hj : j ≤ 8) (W : World) :
    (Instr.sliceAt 80 (.pointer (some ⟨b, 0, none⟩)) none (some (.int .i64 (j : Int))) none).run Tryd.prog W = .ok (.slice (some ⟨b, 0, none⟩) j 8) W := by
  rw [run_sliceAt_array_h W 80 _ und8 .i64 (j : Int) (by omega) (by rw [len8]; omega), siz8, len8]
  simp [Result.andThen, slicedAt, Addr.add]
set_option maxHeartbeats 1000000 in
theorem put_any (n : Nat) (k : Int) (w : World) (hn : n < 18446744073709551616) :
    Calls Tryd.prog 32 #[.int .u64 n, .int .i64 k] w fun e w' => e = .returned (.string ⟨(putL n (clamp8 k)).toArray⟩) ∧ Below w.heap.size w w' := by
  have hc : (k < 0 ∧ clamp8 k = 0) ∨ (∃ j : Nat, k = j ∧ 1 ≤ j ∧ j < 8 ∧ clamp8 k = j) ∨ (k = 0 ∧ clamp8 k = 0) ∨ (k = 8 ∧ clamp8 k = 8) ∨ (8 < k ∧ clamp8 k = 8) := by
    unfold clamp8
    by_cases h : k < 0
    · exact Or.inl ⟨h, by omega⟩
    · by_cases h8 : 1 ≤ k ∧ k < 8
      · exact Or.inr (Or.inl ⟨k.toNat, by omega, by omega, by omega, by omega⟩)
      · omega
  rcases hc with ⟨h, e⟩ | ⟨j, rfl, h, h8, e⟩ | ⟨rfl, e⟩ | ⟨rfl, e⟩ | ⟨h, e⟩
  · rw [e]
    have hcv := put_conv n hn w 0 8 (by omega)
    unfold putCells at hcv
    clear e
    go_enter Tryd.func32, Tryd.ntmps32
    go_wp2
    go_rounds 9
    go_ret
    exact ⟨rfl, by go_grown⟩
  · rw [e]
    have hcv := put_conv n hn w j 8 (by omega)
    have hsl := put_slice w.heap.size j (by omega)
    unfold putCells at hcv
    clear e
    go_enter Tryd.func32, Tryd.ntmps32
    go_wp2
    go_rounds 9
    go_ret
    exact ⟨rfl, by go_grown⟩
  · rw [e]
    have hcv := put_conv n hn w 0 8 (by omega)
    unfold putCells at hcv
    clear e
    go_enter Tryd.func32, Tryd.ntmps32
    go_wp2
    go_rounds 9
    go_ret
    exact ⟨rfl, by go_grown⟩
  · rw [e]
    have hcv := put_conv n hn w 8 8 (by omega)
    unfold putCells at hcv
    clear e
    go_enter Tryd.func32, Tryd.ntmps32
    go_wp2
    go_rounds 9
    go_ret
    exact ⟨rfl, by go_grown⟩
  · rw [e]
    have hcv := put_conv n hn w 8 8 (by omega)
    unfold putCells at hcv
    clear e
    go_enter Tryd.func32, Tryd.ntmps32
    go_wp2
    go_rounds 9
    go_ret
    exact ⟨rfl, by go_grown⟩

end Go.Proofs.YtefiapmgdjlnnaaDoor
