/-
  Layer 16: the document's Right of any inode.
-/
import Derived.Test.YtpkhfdcokcchdabInH
namespace Go.Proofs.Ytpkhfdcokcchdab
open Go.RowKit

theorem rr_l0 (l s : Int) (B : Nat) (ao : Option Addr) (cap : Nat) (k : Nat) (t : ByteArray) (w : World) (h1 : l < 0) :
    Calls Try.prog 15 #[.agg #[.int .u8 k, .int .i64 l, .int .i64 s, .slice ao B cap, .string t]] w fun e w' => e = .returned (.bool false) ∧ Gr [] w w' := by
  have HG := Lib.hid ((Gr.refl [] w).alloc (Obj.cells #[.int .u8 k, .int .i64 l, .int .i64 s, .slice ao B cap, .string t] 33))
  go_enter Try.func15, Try.ntmps15
  go_wp2_with fail
  go_ret
  exact ⟨rfl, HG.out⟩
theorem rr_l1 (l s : Int) (B : Nat) (ao : Option Addr) (cap : Nat) (k : Nat) (t : ByteArray) (w : World) (h1 : 0 ≤ l) (h2 : 1000 < l) :
    Calls Try.prog 15 #[.agg #[.int .u8 k, .int .i64 l, .int .i64 s, .slice ao B cap, .string t]] w fun e w' => e = .returned (.bool false) ∧ Gr [] w w' := by
  have HG := Lib.hid ((Gr.refl [] w).alloc (Obj.cells #[.int .u8 k, .int .i64 l, .int .i64 s, .slice ao B cap, .string t] 33))
  go_enter Try.func15, Try.ntmps15
  go_wp2_with fail
  go_ret
  exact ⟨rfl, HG.out⟩
theorem rr_k (l s : Int) (B : Nat) (ao : Option Addr) (cap : Nat) (k : Nat) (t : ByteArray) (w : World) (h1 : 0 ≤ l) (h2 : l ≤ 1000) (hk1 : (k : Int) ≠ 1) (hk2 : (k : Int) ≠ 2) (hk3 : (k : Int) ≠ 3) :
    Calls Try.prog 15 #[.agg #[.int .u8 k, .int .i64 l, .int .i64 s, .slice ao B cap, .string t]] w fun e w' => e = .returned (.bool false) ∧ Gr [] w w' := by
  have HG := Lib.hid ((Gr.refl [] w).alloc (Obj.cells #[.int .u8 k, .int .i64 l, .int .i64 s, .slice ao B cap, .string t] 33))
  go_enter Try.func15, Try.ntmps15
  go_wp2_with fail
  go_ret
  exact ⟨rfl, HG.out⟩
theorem rr_d1 (l s : Int) (B : Nat) (ao : Option Addr) (cap : Nat) (t : ByteArray) (w : World) (h1 : 0 ≤ l) (h2 : l ≤ 1000) (h3 : s ≠ 0) :
    Calls Try.prog 15 #[.agg #[.int .u8 2, .int .i64 l, .int .i64 s, .slice ao B cap, .string t]] w fun e w' => e = .returned (.bool false) ∧ Gr [] w w' := by
  have HG := Lib.hid ((Gr.refl [] w).alloc (Obj.cells #[.int .u8 2, .int .i64 l, .int .i64 s, .slice ao B cap, .string t] 33))
  go_enter Try.func15, Try.ntmps15
  go_wp2_with fail
  go_ret
  exact ⟨rfl, HG.out⟩
theorem rr_d2 (l s : Int) (B : Nat) (ao : Option Addr) (cap : Nat) (t : ByteArray) (w : World) (h1 : 0 ≤ l) (h2 : l ≤ 1000) (h3 : s = 0) (h4 : B ≠ 0) :
    Calls Try.prog 15 #[.agg #[.int .u8 2, .int .i64 l, .int .i64 s, .slice ao B cap, .string t]] w fun e w' => e = .returned (.bool false) ∧ Gr [] w w' := by
  have HG := Lib.hid ((Gr.refl [] w).alloc (Obj.cells #[.int .u8 2, .int .i64 l, .int .i64 s, .slice ao B cap, .string t] 33))
  subst h3
  go_enter Try.func15, Try.ntmps15
  go_wp2_with fail
  go_ret
  exact ⟨rfl, HG.out⟩
theorem rr_d3 (l s : Int) (B : Nat) (ao : Option Addr) (cap : Nat) (t : ByteArray) (w : World) (h1 : 0 ≤ l) (h2 : l ≤ 1000) (h3 : s = 0) (h4 : B = 0) (ht : t.size ≠ 0) :
    Calls Try.prog 15 #[.agg #[.int .u8 2, .int .i64 l, .int .i64 s, .slice ao B cap, .string t]] w fun e w' => e = .returned (.bool false) ∧ Gr [] w w' := by
  have HG := Lib.hid ((Gr.refl [] w).alloc (Obj.cells #[.int .u8 2, .int .i64 l, .int .i64 s, .slice ao B cap, .string t] 33))
  subst h3 h4
  have ht2 := bs_empty ht
  go_enter Try.func15, Try.ntmps15
  go_wp2_with fail
  go_ret
  exact ⟨rfl, HG.out⟩
theorem rr_d4 (l s : Int) (B : Nat) (ao : Option Addr) (cap : Nat) (w : World) (h1 : 0 ≤ l) (h2 : l ≤ 1000) (h3 : s = 0) (h4 : B = 0) :
    Calls Try.prog 15 #[.agg #[.int .u8 2, .int .i64 l, .int .i64 s, .slice ao B cap, .string ⟨#[]⟩]] w fun e w' => e = .returned (.bool true) ∧ Gr [] w w' := by
  have HG := Lib.hid ((Gr.refl [] w).alloc (Obj.cells #[.int .u8 2, .int .i64 l, .int .i64 s, .slice ao B cap, .string ⟨#[]⟩] 33))
  subst h3 h4
  go_enter Try.func15, Try.ntmps15
  go_wp2_with fail
  go_ret
  exact ⟨rfl, HG.out⟩
theorem str_at (t : ByteArray) (k : Nat) (h : k < t.size) : t.data.toList[k]? = some t[k] := by
  have hl : k < t.data.toList.length := by rw [← Lib.size_eq]; exact h
  rw [List.getElem?_eq_getElem hl]
  rfl
theorem str_has {t : ByteArray} {k : Nat} {x : UInt8} (h : t.data.toList[k]? = some x) (hx : x = 0) : t.data.toList.contains 0 = true := by
  subst hx
  exact List.elem_eq_true_of_mem (List.mem_of_getElem? h)
theorem str_step {t : ByteArray} {k : Nat} {x : UInt8} (h : ∀ j, j < k → t.data.toList[j]? ≠ some 0) (hx : t.data.toList[k]? = some x) (h0 : x ≠ 0) : ∀ j, j < k + 1 → t.data.toList[j]? ≠ some 0 := by
  intro j hj
  by_cases e : j = k
  · subst e; rw [hx]; intro e; exact h0 (Option.some.inj e)
  · exact h j (by omega)
theorem str_free {t : ByteArray} (h : ∀ j, j < t.size → t.data.toList[j]? ≠ some 0) : t.data.toList.contains 0 = false := by
  cases hc : t.data.toList.contains 0 with
  | false => rfl
  | true =>
    exfalso
    obtain ⟨j, hj⟩ := List.getElem?_of_mem (List.mem_of_elem_eq_true hc)
    exact h j (by rw [Lib.size_eq]; exact (List.getElem?_eq_some_iff.1 hj).1) hj
set_option maxRecDepth 20000 in
theorem rr_k1 (l s : Int) (B : Nat) (ao : Option Addr) (cap : Nat) (t : ByteArray) (w : World) (h1 : 0 ≤ l) (h2 : l ≤ 1000) (hm : t.size ≤ maxLen) (h0 : ¬ 1 ≤ (t.size : Int)) :
    Calls Try.prog 15 #[.agg #[.int .u8 3, .int .i64 l, .int .i64 s, .slice ao B cap, .string t]] w fun e w' => ((t.data.toList.contains 0 = true ∧ e = .returned (.bool false)) ∨ (t.data.toList.contains 0 = false ∧ e = .returned (.bool false))) ∧ Gr [] w w' := by
  have HG := Lib.hid ((Gr.refl [] w).alloc (Obj.cells #[.int .u8 3, .int .i64 l, .int .i64 s, .slice ao B cap, .string t] 33))
  have HI := Lib.hid (Holds.new w #[.int .u8 3, .int .i64 l, .int .i64 s, .slice ao B cap, .string t] 33)
  unfold maxLen at hm
  go_enter Try.func15, Try.ntmps15
  go_wp2_with fail
  generalize w.alloc (Obj.cells #[.int .u8 3, .int .i64 l, .int .i64 s, .slice ao B cap, .string t] 33) = w1 at *
  generalize w.heap.size = b1 at *
  go_loopw [7] (fun q wr => ∃ k : Nat, k ≤ t.size ∧ q = .int .i64 k ∧ wr = w1 ∧ Hid (∀ j, j < k → t.data.toList[j]? ≠ some 0)) (fun q _ => t.size - (intOf q).toNat)
  case atStart => exact ⟨0, by omega, rfl, rfl, Lib.hid (fun j hj => by omega)⟩
  case round =>
    obtain ⟨k, hk, rfl, rfl, HZ⟩ := hrel
    have i0 := HI.out.cell 0
    have i4 := HI.out.cell 4
    by_cases hkn : k < t.size
    · exfalso; omega
    · obtain rfl : k = t.size := by omega
      have HC := Lib.hid (show t.data.toList.contains 0 = false from str_free HZ.out)
      clear hkn
      have i2 := HI.out.cell 2
      have i3 := HI.out.cell 3
      go_wp2_with fail
      go_ret
      exact ⟨.inr ⟨by simpa using HC.out, by first | rfl | trivial⟩, HG.out⟩
set_option maxRecDepth 20000 in
theorem rr_k2 (l s : Int) (B : Nat) (ao : Option Addr) (cap : Nat) (t : ByteArray) (w : World) (h1 : 0 ≤ l) (h2 : l ≤ 1000) (hm : t.size ≤ maxLen) (h0 : 1 ≤ (t.size : Int)) (h3 : 256 < t.size) :
    Calls Try.prog 15 #[.agg #[.int .u8 3, .int .i64 l, .int .i64 s, .slice ao B cap, .string t]] w fun e w' => ((t.data.toList.contains 0 = true ∧ e = .returned (.bool false)) ∨ (t.data.toList.contains 0 = false ∧ e = .returned (.bool false))) ∧ Gr [] w w' := by
  have HG := Lib.hid ((Gr.refl [] w).alloc (Obj.cells #[.int .u8 3, .int .i64 l, .int .i64 s, .slice ao B cap, .string t] 33))
  have HI := Lib.hid (Holds.new w #[.int .u8 3, .int .i64 l, .int .i64 s, .slice ao B cap, .string t] 33)
  unfold maxLen at hm
  go_enter Try.func15, Try.ntmps15
  go_wp2_with fail
  generalize w.alloc (Obj.cells #[.int .u8 3, .int .i64 l, .int .i64 s, .slice ao B cap, .string t] 33) = w1 at *
  generalize w.heap.size = b1 at *
  go_loopw [7] (fun q wr => ∃ k : Nat, k ≤ t.size ∧ q = .int .i64 k ∧ wr = w1 ∧ Hid (∀ j, j < k → t.data.toList[j]? ≠ some 0)) (fun q _ => t.size - (intOf q).toNat)
  case atStart => exact ⟨0, by omega, rfl, rfl, Lib.hid (fun j hj => by omega)⟩
  case round =>
    obtain ⟨k, hk, rfl, rfl, HZ⟩ := hrel
    have i0 := HI.out.cell 0
    have i4 := HI.out.cell 4
    by_cases hkn : k < t.size
    · skip
      have hkn2 : (k : Int) < (t.size : Int) := by omega
      have hget := str_at t k hkn
      by_cases hx : t[k].toNat = 0
      · have hx2 : ((t[k].toNat : Int) == 0) = true := by simp [hx]
        have HC := Lib.hid (show t.data.toList.contains 0 = true from str_has hget (UInt8.toNat_inj.1 hx))
        clear hx hget
        go_wp2_with fail
        go_ret
        exact ⟨.inl ⟨by simpa using HC.out, by first | rfl | trivial⟩, HG.out⟩
      · have hx2 : ((t[k].toNat : Int) == 0) = false := by simp; omega
        have HN := Lib.hid (show ∀ j, j < k + 1 → t.data.toList[j]? ≠ some 0 from str_step HZ.out hget (fun e => hx (by rw [e]; rfl)))
        clear hx hget
        go_wp2_with fail
        go_roundw
        case rel => exact ⟨k + 1, by omega, by go_num, by first | rfl | trivial, HN⟩
        case measure => simp [intOf]; omega
    · obtain rfl : k = t.size := by omega
      have HC := Lib.hid (show t.data.toList.contains 0 = false from str_free HZ.out)
      clear hkn
      have i2 := HI.out.cell 2
      have i3 := HI.out.cell 3
      go_wp2_with fail
      go_ret
      exact ⟨.inr ⟨by simpa using HC.out, by first | rfl | trivial⟩, HG.out⟩
set_option maxRecDepth 20000 in
theorem rr_k3 (l s : Int) (B : Nat) (ao : Option Addr) (cap : Nat) (t : ByteArray) (w : World) (h1 : 0 ≤ l) (h2 : l ≤ 1000) (hm : t.size ≤ maxLen) (h0 : 1 ≤ (t.size : Int)) (h3 : t.size ≤ 256) (h5 : s ≠ t.size) :
    Calls Try.prog 15 #[.agg #[.int .u8 3, .int .i64 l, .int .i64 s, .slice ao B cap, .string t]] w fun e w' => ((t.data.toList.contains 0 = true ∧ e = .returned (.bool false)) ∨ (t.data.toList.contains 0 = false ∧ e = .returned (.bool false))) ∧ Gr [] w w' := by
  have HG := Lib.hid ((Gr.refl [] w).alloc (Obj.cells #[.int .u8 3, .int .i64 l, .int .i64 s, .slice ao B cap, .string t] 33))
  have HI := Lib.hid (Holds.new w #[.int .u8 3, .int .i64 l, .int .i64 s, .slice ao B cap, .string t] 33)
  unfold maxLen at hm
  have h3i : (t.size : Int) ≤ 256 := by omega
  have h5d : (s == (t.size : Int)) = false := by simpa using h5
  clear h5
  go_enter Try.func15, Try.ntmps15
  go_wp2_with fail
  generalize w.alloc (Obj.cells #[.int .u8 3, .int .i64 l, .int .i64 s, .slice ao B cap, .string t] 33) = w1 at *
  generalize w.heap.size = b1 at *
  go_loopw [7] (fun q wr => ∃ k : Nat, k ≤ t.size ∧ q = .int .i64 k ∧ wr = w1 ∧ Hid (∀ j, j < k → t.data.toList[j]? ≠ some 0)) (fun q _ => t.size - (intOf q).toNat)
  case atStart => exact ⟨0, by omega, rfl, rfl, Lib.hid (fun j hj => by omega)⟩
  case round =>
    obtain ⟨k, hk, rfl, rfl, HZ⟩ := hrel
    have i0 := HI.out.cell 0
    have i4 := HI.out.cell 4
    by_cases hkn : k < t.size
    · skip
      have hkn2 : (k : Int) < (t.size : Int) := by omega
      have hget := str_at t k hkn
      by_cases hx : t[k].toNat = 0
      · have hx2 : ((t[k].toNat : Int) == 0) = true := by simp [hx]
        have HC := Lib.hid (show t.data.toList.contains 0 = true from str_has hget (UInt8.toNat_inj.1 hx))
        clear hx hget
        go_wp2_with fail
        go_ret
        exact ⟨.inl ⟨by simpa using HC.out, by first | rfl | trivial⟩, HG.out⟩
      · have hx2 : ((t[k].toNat : Int) == 0) = false := by simp; omega
        have HN := Lib.hid (show ∀ j, j < k + 1 → t.data.toList[j]? ≠ some 0 from str_step HZ.out hget (fun e => hx (by rw [e]; rfl)))
        clear hx hget
        go_wp2_with fail
        go_roundw
        case rel => exact ⟨k + 1, by omega, by go_num, by first | rfl | trivial, HN⟩
        case measure => simp [intOf]; omega
    · obtain rfl : k = t.size := by omega
      have HC := Lib.hid (show t.data.toList.contains 0 = false from str_free HZ.out)
      clear hkn
      have i2 := HI.out.cell 2
      have i3 := HI.out.cell 3
      go_wp2_with fail
      go_ret
      exact ⟨.inr ⟨by simpa using HC.out, by first | rfl | trivial⟩, HG.out⟩
set_option maxRecDepth 20000 in
theorem rr_k4 (l s : Int) (B : Nat) (ao : Option Addr) (cap : Nat) (t : ByteArray) (w : World) (h1 : 0 ≤ l) (h2 : l ≤ 1000) (hm : t.size ≤ maxLen) (h0 : 1 ≤ (t.size : Int)) (h3 : t.size ≤ 256) (h5 : s = t.size) (h6 : B ≠ 0) :
    Calls Try.prog 15 #[.agg #[.int .u8 3, .int .i64 l, .int .i64 s, .slice ao B cap, .string t]] w fun e w' => ((t.data.toList.contains 0 = true ∧ e = .returned (.bool false)) ∨ (t.data.toList.contains 0 = false ∧ e = .returned (.bool false))) ∧ Gr [] w w' := by
  have HG := Lib.hid ((Gr.refl [] w).alloc (Obj.cells #[.int .u8 3, .int .i64 l, .int .i64 s, .slice ao B cap, .string t] 33))
  have HI := Lib.hid (Holds.new w #[.int .u8 3, .int .i64 l, .int .i64 s, .slice ao B cap, .string t] 33)
  unfold maxLen at hm
  have h3i : (t.size : Int) ≤ 256 := by omega
  have h5d : (s == (t.size : Int)) = true := by simpa using h5
  clear h5
  have h6d : ((B : Int) == 0) = false := by simpa using h6
  clear h6
  go_enter Try.func15, Try.ntmps15
  go_wp2_with fail
  generalize w.alloc (Obj.cells #[.int .u8 3, .int .i64 l, .int .i64 s, .slice ao B cap, .string t] 33) = w1 at *
  generalize w.heap.size = b1 at *
  go_loopw [7] (fun q wr => ∃ k : Nat, k ≤ t.size ∧ q = .int .i64 k ∧ wr = w1 ∧ Hid (∀ j, j < k → t.data.toList[j]? ≠ some 0)) (fun q _ => t.size - (intOf q).toNat)
  case atStart => exact ⟨0, by omega, rfl, rfl, Lib.hid (fun j hj => by omega)⟩
  case round =>
    obtain ⟨k, hk, rfl, rfl, HZ⟩ := hrel
    have i0 := HI.out.cell 0
    have i4 := HI.out.cell 4
    by_cases hkn : k < t.size
    · skip
      have hkn2 : (k : Int) < (t.size : Int) := by omega
      have hget := str_at t k hkn
      by_cases hx : t[k].toNat = 0
      · have hx2 : ((t[k].toNat : Int) == 0) = true := by simp [hx]
        have HC := Lib.hid (show t.data.toList.contains 0 = true from str_has hget (UInt8.toNat_inj.1 hx))
        clear hx hget
        go_wp2_with fail
        go_ret
        exact ⟨.inl ⟨by simpa using HC.out, by first | rfl | trivial⟩, HG.out⟩
      · have hx2 : ((t[k].toNat : Int) == 0) = false := by simp; omega
        have HN := Lib.hid (show ∀ j, j < k + 1 → t.data.toList[j]? ≠ some 0 from str_step HZ.out hget (fun e => hx (by rw [e]; rfl)))
        clear hx hget
        go_wp2_with fail
        go_roundw
        case rel => exact ⟨k + 1, by omega, by go_num, by first | rfl | trivial, HN⟩
        case measure => simp [intOf]; omega
    · obtain rfl : k = t.size := by omega
      have HC := Lib.hid (show t.data.toList.contains 0 = false from str_free HZ.out)
      clear hkn
      have i2 := HI.out.cell 2
      have i3 := HI.out.cell 3
      go_wp2_with fail
      go_ret
      exact ⟨.inr ⟨by simpa using HC.out, by first | rfl | trivial⟩, HG.out⟩
set_option maxRecDepth 20000 in
theorem rr_k5 (l s : Int) (B : Nat) (ao : Option Addr) (cap : Nat) (t : ByteArray) (w : World) (h1 : 0 ≤ l) (h2 : l ≤ 1000) (hm : t.size ≤ maxLen) (h0 : 1 ≤ (t.size : Int)) (h3 : t.size ≤ 256) (h5 : s = t.size) (h6 : B = 0) :
    Calls Try.prog 15 #[.agg #[.int .u8 3, .int .i64 l, .int .i64 s, .slice ao B cap, .string t]] w fun e w' => ((t.data.toList.contains 0 = true ∧ e = .returned (.bool false)) ∨ (t.data.toList.contains 0 = false ∧ e = .returned (.bool true))) ∧ Gr [] w w' := by
  have HG := Lib.hid ((Gr.refl [] w).alloc (Obj.cells #[.int .u8 3, .int .i64 l, .int .i64 s, .slice ao B cap, .string t] 33))
  have HI := Lib.hid (Holds.new w #[.int .u8 3, .int .i64 l, .int .i64 s, .slice ao B cap, .string t] 33)
  unfold maxLen at hm
  have h3i : (t.size : Int) ≤ 256 := by omega
  have h5d : (s == (t.size : Int)) = true := by simpa using h5
  clear h5
  have h6d : ((B : Int) == 0) = true := by simpa using h6
  clear h6
  go_enter Try.func15, Try.ntmps15
  go_wp2_with fail
  generalize w.alloc (Obj.cells #[.int .u8 3, .int .i64 l, .int .i64 s, .slice ao B cap, .string t] 33) = w1 at *
  generalize w.heap.size = b1 at *
  go_loopw [7] (fun q wr => ∃ k : Nat, k ≤ t.size ∧ q = .int .i64 k ∧ wr = w1 ∧ Hid (∀ j, j < k → t.data.toList[j]? ≠ some 0)) (fun q _ => t.size - (intOf q).toNat)
  case atStart => exact ⟨0, by omega, rfl, rfl, Lib.hid (fun j hj => by omega)⟩
  case round =>
    obtain ⟨k, hk, rfl, rfl, HZ⟩ := hrel
    have i0 := HI.out.cell 0
    have i4 := HI.out.cell 4
    by_cases hkn : k < t.size
    · skip
      have hkn2 : (k : Int) < (t.size : Int) := by omega
      have hget := str_at t k hkn
      by_cases hx : t[k].toNat = 0
      · have hx2 : ((t[k].toNat : Int) == 0) = true := by simp [hx]
        have HC := Lib.hid (show t.data.toList.contains 0 = true from str_has hget (UInt8.toNat_inj.1 hx))
        clear hx hget
        go_wp2_with fail
        go_ret
        exact ⟨.inl ⟨by simpa using HC.out, by first | rfl | trivial⟩, HG.out⟩
      · have hx2 : ((t[k].toNat : Int) == 0) = false := by simp; omega
        have HN := Lib.hid (show ∀ j, j < k + 1 → t.data.toList[j]? ≠ some 0 from str_step HZ.out hget (fun e => hx (by rw [e]; rfl)))
        clear hx hget
        go_wp2_with fail
        go_roundw
        case rel => exact ⟨k + 1, by omega, by go_num, by first | rfl | trivial, HN⟩
        case measure => simp [intOf]; omega
    · obtain rfl : k = t.size := by omega
      have HC := Lib.hid (show t.data.toList.contains 0 = false from str_free HZ.out)
      clear hkn
      have i2 := HI.out.cell 2
      have i3 := HI.out.cell 3
      go_wp2_with fail
      go_ret
      exact ⟨.inr ⟨by simpa using HC.out, by first | rfl | trivial⟩, HG.out⟩
set_option maxRecDepth 20000 in
theorem rr_f0 (l s : Int) (B : Nat) (ao : Option Addr) (cap : Nat) (b : List (Int × Int)) (t : ByteArray) (w : World) (h1 : 0 ≤ l) (h2 : l ≤ 1000) (hv : Rd2 w ao b) (hB : B = b.length) (hr : ¬ Right15 b) :
    Calls Try.prog 15 #[.agg #[.int .u8 1, .int .i64 l, .int .i64 s, .slice ao B cap, .string t]] w fun e w' => e = .returned (.bool false) ∧ Gr [] w w' := by
  have HG := Lib.hid ((Gr.refl [] w).alloc (Obj.cells #[.int .u8 1, .int .i64 l, .int .i64 s, .slice ao B cap, .string t] 33))
  have HI := Lib.hid (Holds.new w #[.int .u8 1, .int .i64 l, .int .i64 s, .slice ao B cap, .string t] 33)
  have HV := Lib.hid (hv.gr0 ((Gr.refl [] w).alloc (Obj.cells #[.int .u8 1, .int .i64 l, .int .i64 s, .slice ao B cap, .string t] 33)))
  have HBL := Lib.hid hB
  clear hv hB
  have HRR := Lib.hid hr
  clear hr
  go_enter Try.func15, Try.ntmps15
  go_wp2_with fail
  generalize w.alloc (Obj.cells #[.int .u8 1, .int .i64 l, .int .i64 s, .slice ao B cap, .string t] 33) = w1 at *
  generalize w.heap.size = b1 at *
  with_reducible refine (rright15_no b B ao cap w1 HV.out HBL.out HRR.out).mono ?_
  rintro e w2 ⟨rfl, g2⟩
  have HG2 := Lib.hid (HG.out.next0 g2)
  have HV2 := Lib.hid (HV.out.gr0 g2)
  have HI2 := Lib.hid (HI.out.gr0 g2)
  clear g2 HG HV HI
  have i0 := HI2.out.cell 0
  have i2 := HI2.out.cell 2
  have i3 := HI2.out.cell 3
  have i4 := HI2.out.cell 4
  go_wp2_with fail
  go_ret
  exact ⟨rfl, HG2.out⟩
set_option maxRecDepth 20000 in
theorem rr_f1 (l s : Int) (B : Nat) (ao : Option Addr) (cap : Nat) (b : List (Int × Int)) (t : ByteArray) (w : World) (h1 : 0 ≤ l) (h2 : l ≤ 1000) (hv : Rd2 w ao b) (hB : B = b.length) (hr : Right15 b) (h3 : s < 0) :
    Calls Try.prog 15 #[.agg #[.int .u8 1, .int .i64 l, .int .i64 s, .slice ao B cap, .string t]] w fun e w' => e = .returned (.bool false) ∧ Gr [] w w' := by
  have HG := Lib.hid ((Gr.refl [] w).alloc (Obj.cells #[.int .u8 1, .int .i64 l, .int .i64 s, .slice ao B cap, .string t] 33))
  have HI := Lib.hid (Holds.new w #[.int .u8 1, .int .i64 l, .int .i64 s, .slice ao B cap, .string t] 33)
  have HV := Lib.hid (hv.gr0 ((Gr.refl [] w).alloc (Obj.cells #[.int .u8 1, .int .i64 l, .int .i64 s, .slice ao B cap, .string t] 33)))
  have HBL := Lib.hid hB
  clear hv hB
  have HRR := Lib.hid hr
  clear hr
  go_enter Try.func15, Try.ntmps15
  go_wp2_with fail
  generalize w.alloc (Obj.cells #[.int .u8 1, .int .i64 l, .int .i64 s, .slice ao B cap, .string t] 33) = w1 at *
  generalize w.heap.size = b1 at *
  with_reducible refine (rright15_yes b B ao cap w1 HV.out HBL.out HRR.out).mono ?_
  rintro e w2 ⟨rfl, g2⟩
  have HG2 := Lib.hid (HG.out.next0 g2)
  have HV2 := Lib.hid (HV.out.gr0 g2)
  have HI2 := Lib.hid (HI.out.gr0 g2)
  clear g2 HG HV HI
  have i0 := HI2.out.cell 0
  have i2 := HI2.out.cell 2
  have i3 := HI2.out.cell 3
  have i4 := HI2.out.cell 4
  go_wp2_with fail
  go_ret
  exact ⟨rfl, HG2.out⟩
set_option maxRecDepth 20000 in
theorem rr_f2 (l s : Int) (B : Nat) (ao : Option Addr) (cap : Nat) (b : List (Int × Int)) (t : ByteArray) (w : World) (h1 : 0 ≤ l) (h2 : l ≤ 1000) (hv : Rd2 w ao b) (hB : B = b.length) (hr : Right15 b) (h3 : 0 ≤ s) (h4 : 4194304 < s) :
    Calls Try.prog 15 #[.agg #[.int .u8 1, .int .i64 l, .int .i64 s, .slice ao B cap, .string t]] w fun e w' => e = .returned (.bool false) ∧ Gr [] w w' := by
  have HG := Lib.hid ((Gr.refl [] w).alloc (Obj.cells #[.int .u8 1, .int .i64 l, .int .i64 s, .slice ao B cap, .string t] 33))
  have HI := Lib.hid (Holds.new w #[.int .u8 1, .int .i64 l, .int .i64 s, .slice ao B cap, .string t] 33)
  have HV := Lib.hid (hv.gr0 ((Gr.refl [] w).alloc (Obj.cells #[.int .u8 1, .int .i64 l, .int .i64 s, .slice ao B cap, .string t] 33)))
  have HBL := Lib.hid hB
  clear hv hB
  have HRR := Lib.hid hr
  clear hr
  go_enter Try.func15, Try.ntmps15
  go_wp2_with fail
  generalize w.alloc (Obj.cells #[.int .u8 1, .int .i64 l, .int .i64 s, .slice ao B cap, .string t] 33) = w1 at *
  generalize w.heap.size = b1 at *
  with_reducible refine (rright15_yes b B ao cap w1 HV.out HBL.out HRR.out).mono ?_
  rintro e w2 ⟨rfl, g2⟩
  have HG2 := Lib.hid (HG.out.next0 g2)
  have HV2 := Lib.hid (HV.out.gr0 g2)
  have HI2 := Lib.hid (HI.out.gr0 g2)
  clear g2 HG HV HI
  have i0 := HI2.out.cell 0
  have i2 := HI2.out.cell 2
  have i3 := HI2.out.cell 3
  have i4 := HI2.out.cell 4
  go_wp2_with fail
  go_ret
  exact ⟨rfl, HG2.out⟩
set_option maxRecDepth 20000 in
theorem rr_f3 (l s : Int) (B : Nat) (ao : Option Addr) (cap : Nat) (b : List (Int × Int)) (t : ByteArray) (w : World) (h1 : 0 ≤ l) (h2 : l ≤ 1000) (hv : Rd2 w ao b) (hB : B = b.length) (hr : Right15 b) (h3 : 0 ≤ s) (h4 : s ≤ 4194304) (ht : t.size ≠ 0) :
    Calls Try.prog 15 #[.agg #[.int .u8 1, .int .i64 l, .int .i64 s, .slice ao B cap, .string t]] w fun e w' => e = .returned (.bool false) ∧ Gr [] w w' := by
  have HG := Lib.hid ((Gr.refl [] w).alloc (Obj.cells #[.int .u8 1, .int .i64 l, .int .i64 s, .slice ao B cap, .string t] 33))
  have HI := Lib.hid (Holds.new w #[.int .u8 1, .int .i64 l, .int .i64 s, .slice ao B cap, .string t] 33)
  have HV := Lib.hid (hv.gr0 ((Gr.refl [] w).alloc (Obj.cells #[.int .u8 1, .int .i64 l, .int .i64 s, .slice ao B cap, .string t] 33)))
  have HBL := Lib.hid hB
  clear hv hB
  have HRR := Lib.hid hr
  clear hr
  have ht2 := bs_empty ht
  go_enter Try.func15, Try.ntmps15
  go_wp2_with fail
  generalize w.alloc (Obj.cells #[.int .u8 1, .int .i64 l, .int .i64 s, .slice ao B cap, .string t] 33) = w1 at *
  generalize w.heap.size = b1 at *
  with_reducible refine (rright15_yes b B ao cap w1 HV.out HBL.out HRR.out).mono ?_
  rintro e w2 ⟨rfl, g2⟩
  have HG2 := Lib.hid (HG.out.next0 g2)
  have HV2 := Lib.hid (HV.out.gr0 g2)
  have HI2 := Lib.hid (HI.out.gr0 g2)
  clear g2 HG HV HI
  have i0 := HI2.out.cell 0
  have i2 := HI2.out.cell 2
  have i3 := HI2.out.cell 3
  have i4 := HI2.out.cell 4
  go_wp2_with fail
  go_ret
  exact ⟨rfl, HG2.out⟩
set_option maxRecDepth 20000 in
theorem rr_f4 (l s : Int) (B : Nat) (ao : Option Addr) (cap : Nat) (b : List (Int × Int)) (w : World) (h1 : 0 ≤ l) (h2 : l ≤ 1000) (hv : Rd2 w ao b) (hB : B = b.length) (hr : Right15 b) (h3 : 0 ≤ s) (h4 : s ≤ 4194304) (hs : sumZ b ≠ needZ s) :
    Calls Try.prog 15 #[.agg #[.int .u8 1, .int .i64 l, .int .i64 s, .slice ao B cap, .string ⟨#[]⟩]] w fun e w' => e = .returned (.bool false) ∧ Gr [] w w' := by
  have HG := Lib.hid ((Gr.refl [] w).alloc (Obj.cells #[.int .u8 1, .int .i64 l, .int .i64 s, .slice ao B cap, .string ⟨#[]⟩] 33))
  have HI := Lib.hid (Holds.new w #[.int .u8 1, .int .i64 l, .int .i64 s, .slice ao B cap, .string ⟨#[]⟩] 33)
  have HV := Lib.hid (hv.gr0 ((Gr.refl [] w).alloc (Obj.cells #[.int .u8 1, .int .i64 l, .int .i64 s, .slice ao B cap, .string ⟨#[]⟩] 33)))
  have HBL := Lib.hid hB
  clear hv hB
  have HRR := Lib.hid hr
  clear hr
  have HSZ := Lib.hid hs
  clear hs
  go_enter Try.func15, Try.ntmps15
  go_wp2_with fail
  generalize w.alloc (Obj.cells #[.int .u8 1, .int .i64 l, .int .i64 s, .slice ao B cap, .string ⟨#[]⟩] 33) = w1 at *
  generalize w.heap.size = b1 at *
  with_reducible refine (rright15_yes b B ao cap w1 HV.out HBL.out HRR.out).mono ?_
  rintro e w2 ⟨rfl, g2⟩
  have HG2 := Lib.hid (HG.out.next0 g2)
  have HV2 := Lib.hid (HV.out.gr0 g2)
  have HI2 := Lib.hid (HI.out.gr0 g2)
  clear g2 HG HV HI
  have i0 := HI2.out.cell 0
  have i2 := HI2.out.cell 2
  have i3 := HI2.out.cell 3
  have i4 := HI2.out.cell 4
  go_wp2_with fail
  go_loopw [4, 5] (fun x q wr => ∃ k : Nat, k ≤ B ∧ q = .int .i64 k ∧ x = .int .i64 (sumZ (b.take k)) ∧ wr = w2) (fun _ q _ => B - (intOf q).toNat)
  case atStart => exact ⟨0, by omega, rfl, rfl, rfl⟩
  case round =>
    obtain ⟨k, hk, rfl, rfl, rfl⟩ := hrel
    by_cases hkB : k < B
    · have hkB2 : (k : Int) < (B : Int) := by omega
      obtain ⟨⟨x1, x2⟩, hx⟩ : ∃ x, b[k]? = some x := ⟨_, List.getElem?_eq_getElem (by have := HBL.out; omega)⟩
      obtain ⟨bk, o, hao, hbk, c1, c2⟩ := HV2.out k _ hx
      have hxb := HRR.out.all _ (List.mem_of_getElem? hx)
      simp only at hxb
      have hsm := small_sum (l := b) (fun e he => (HRR.out.all e he).2.2) k
      have HST := Lib.hid (sumZ_take hx)
      obtain ⟨p, hp⟩ : ∃ p, p = sumZ (b.take k) := ⟨_, rfl⟩
      rw [← hp] at hsm HST ⊢
      have hB64 : B ≤ 64 := by rw [HBL.out]; exact HRR.out.1
      have hw : IntKind.i64.wrap (p + x2) = p + x2 := IntWalk.i64_in _ (by omega)
      subst hao
      clear hx hp hsm c1
      go_wp2_with fail
      go_roundw
      case rel => exact ⟨k + 1, by omega, by go_num, by rw [HST.out], by first | rfl | trivial⟩
      case measure => simp [intOf]; omega
    · obtain rfl : k = B := by omega
      have ht2 : b.take k = b := by rw [HBL.out]; exact List.take_length
      rw [ht2]
      obtain ⟨Z, hZ⟩ : ∃ Z, Z = sumZ b := ⟨_, rfl⟩
      rw [← hZ]
      have hsZ := HSZ.out
      rw [← hZ] at hsZ
      obtain ⟨Y, hY⟩ : ∃ Y, Y = needZ s := ⟨_, rfl⟩
      rw [← hY] at hsZ
      have HN := Lib.hid (fun W => rneed_any s W (by omega))
      rw [← hY] at HN
      have hsd : (Z == Y) = false := by simpa using hsZ
      clear hZ hY ht2
      go_wp2_with fail
      with_reducible refine (HN.out _).mono ?_
      rintro e w5 ⟨rfl, g5⟩
      have HF := Lib.hid (HG2.out.next0 g5)
      clear g5
      go_wp2_with fail
      go_ret
      exact ⟨rfl, HF.out⟩
set_option maxRecDepth 20000 in
theorem rr_f5 (l s : Int) (B : Nat) (ao : Option Addr) (cap : Nat) (b : List (Int × Int)) (w : World) (h1 : 0 ≤ l) (h2 : l ≤ 1000) (hv : Rd2 w ao b) (hB : B = b.length) (hr : Right15 b) (h3 : 0 ≤ s) (h4 : s ≤ 4194304) (hs : sumZ b = needZ s) :
    Calls Try.prog 15 #[.agg #[.int .u8 1, .int .i64 l, .int .i64 s, .slice ao B cap, .string ⟨#[]⟩]] w fun e w' => e = .returned (.bool true) ∧ Gr [] w w' := by
  have HG := Lib.hid ((Gr.refl [] w).alloc (Obj.cells #[.int .u8 1, .int .i64 l, .int .i64 s, .slice ao B cap, .string ⟨#[]⟩] 33))
  have HI := Lib.hid (Holds.new w #[.int .u8 1, .int .i64 l, .int .i64 s, .slice ao B cap, .string ⟨#[]⟩] 33)
  have HV := Lib.hid (hv.gr0 ((Gr.refl [] w).alloc (Obj.cells #[.int .u8 1, .int .i64 l, .int .i64 s, .slice ao B cap, .string ⟨#[]⟩] 33)))
  have HBL := Lib.hid hB
  clear hv hB
  have HRR := Lib.hid hr
  clear hr
  have HSZ := Lib.hid hs
  clear hs
  go_enter Try.func15, Try.ntmps15
  go_wp2_with fail
  generalize w.alloc (Obj.cells #[.int .u8 1, .int .i64 l, .int .i64 s, .slice ao B cap, .string ⟨#[]⟩] 33) = w1 at *
  generalize w.heap.size = b1 at *
  with_reducible refine (rright15_yes b B ao cap w1 HV.out HBL.out HRR.out).mono ?_
  rintro e w2 ⟨rfl, g2⟩
  have HG2 := Lib.hid (HG.out.next0 g2)
  have HV2 := Lib.hid (HV.out.gr0 g2)
  have HI2 := Lib.hid (HI.out.gr0 g2)
  clear g2 HG HV HI
  have i0 := HI2.out.cell 0
  have i2 := HI2.out.cell 2
  have i3 := HI2.out.cell 3
  have i4 := HI2.out.cell 4
  go_wp2_with fail
  go_loopw [4, 5] (fun x q wr => ∃ k : Nat, k ≤ B ∧ q = .int .i64 k ∧ x = .int .i64 (sumZ (b.take k)) ∧ wr = w2) (fun _ q _ => B - (intOf q).toNat)
  case atStart => exact ⟨0, by omega, rfl, rfl, rfl⟩
  case round =>
    obtain ⟨k, hk, rfl, rfl, rfl⟩ := hrel
    by_cases hkB : k < B
    · have hkB2 : (k : Int) < (B : Int) := by omega
      obtain ⟨⟨x1, x2⟩, hx⟩ : ∃ x, b[k]? = some x := ⟨_, List.getElem?_eq_getElem (by have := HBL.out; omega)⟩
      obtain ⟨bk, o, hao, hbk, c1, c2⟩ := HV2.out k _ hx
      have hxb := HRR.out.all _ (List.mem_of_getElem? hx)
      simp only at hxb
      have hsm := small_sum (l := b) (fun e he => (HRR.out.all e he).2.2) k
      have HST := Lib.hid (sumZ_take hx)
      obtain ⟨p, hp⟩ : ∃ p, p = sumZ (b.take k) := ⟨_, rfl⟩
      rw [← hp] at hsm HST ⊢
      have hB64 : B ≤ 64 := by rw [HBL.out]; exact HRR.out.1
      have hw : IntKind.i64.wrap (p + x2) = p + x2 := IntWalk.i64_in _ (by omega)
      subst hao
      clear hx hp hsm c1
      go_wp2_with fail
      go_roundw
      case rel => exact ⟨k + 1, by omega, by go_num, by rw [HST.out], by first | rfl | trivial⟩
      case measure => simp [intOf]; omega
    · obtain rfl : k = B := by omega
      have ht2 : b.take k = b := by rw [HBL.out]; exact List.take_length
      rw [ht2]
      obtain ⟨Z, hZ⟩ : ∃ Z, Z = sumZ b := ⟨_, rfl⟩
      rw [← hZ]
      have hsZ := HSZ.out
      rw [← hZ] at hsZ
      obtain ⟨Y, hY⟩ : ∃ Y, Y = needZ s := ⟨_, rfl⟩
      rw [← hY] at hsZ
      have HN := Lib.hid (fun W => rneed_any s W (by omega))
      rw [← hY] at HN
      subst hsZ
      clear hZ hY ht2
      go_wp2_with fail
      with_reducible refine (HN.out _).mono ?_
      rintro e w5 ⟨rfl, g5⟩
      have HF := Lib.hid (HG2.out.next0 g5)
      clear g5
      go_wp2_with fail
      go_ret
      exact ⟨rfl, HF.out⟩

theorem rright16_dec (k : Nat) (l s : Int) (b : List (Int × Int)) (t : ByteArray) (ao : Option Addr) (cap : Nat) (w : World) (hv : Rd2 w ao b) (hm : t.size ≤ maxLen) :
    Calls Try.prog 15 #[.agg #[.int .u8 k, .int .i64 l, .int .i64 s, .slice ao b.length cap, .string t]] w fun e w' => (∃ r : Bool, (r = true ↔ Right16 k l s b t) ∧ e = .returned (.bool r)) ∧ Gr [] w w' := by
  have no : ∀ {P : Prop}, ¬ P → (false = true ↔ P) := fun h => ⟨fun e => (by cases e), fun e => absurd e h⟩
  have fin : ∀ (r : Bool), (r = true ↔ Right16 k l s b t) → Calls Try.prog 15 #[.agg #[.int .u8 k, .int .i64 l, .int .i64 s, .slice ao b.length cap, .string t]] w (fun e w' => e = .returned (.bool r) ∧ Gr [] w w') → Calls Try.prog 15 #[.agg #[.int .u8 k, .int .i64 l, .int .i64 s, .slice ao b.length cap, .string t]] w fun e w' => (∃ r : Bool, (r = true ↔ Right16 k l s b t) ∧ e = .returned (.bool r)) ∧ Gr [] w w' :=
    fun r hr h => h.mono fun e w' q => ⟨⟨r, hr, q.1⟩, q.2⟩
  have fin3 : ∀ (F : Bool), (t.data.toList.contains 0 = true → ¬ Right16 k l s b t) → (t.data.toList.contains 0 = false → (F = true ↔ Right16 k l s b t)) → Calls Try.prog 15 #[.agg #[.int .u8 k, .int .i64 l, .int .i64 s, .slice ao b.length cap, .string t]] w (fun e w' => ((t.data.toList.contains 0 = true ∧ e = .returned (.bool false)) ∨ (t.data.toList.contains 0 = false ∧ e = .returned (.bool F))) ∧ Gr [] w w') → Calls Try.prog 15 #[.agg #[.int .u8 k, .int .i64 l, .int .i64 s, .slice ao b.length cap, .string t]] w fun e w' => (∃ r : Bool, (r = true ↔ Right16 k l s b t) ∧ e = .returned (.bool r)) ∧ Gr [] w w' :=
    fun F h1 h2 h => h.mono fun e w' q => by
      rcases q with ⟨⟨c, r⟩ | ⟨c, r⟩, g⟩
      · exact ⟨⟨false, no (h1 c), r⟩, g⟩
      · exact ⟨⟨F, h2 c, r⟩, g⟩
  unfold Right16 at *
  by_cases h1 : l < 0
  · exact fin _ (no (by omega)) (rr_l0 l s _ ao cap k t w h1)
  by_cases h2 : 1000 < l
  · exact fin _ (no (by omega)) (rr_l1 l s _ ao cap k t w (by omega) h2)
  have h1' : 0 ≤ l := by omega
  have h2' : l ≤ 1000 := by omega
  by_cases k1 : k = 1
  · subst k1
    by_cases hr : Right15 b
    · by_cases h3 : s < 0
      · exact fin _ (no (by omega)) (rr_f1 l s _ ao cap b t w h1' h2' hv rfl hr h3)
      by_cases h4 : 4194304 < s
      · exact fin _ (no (by omega)) (rr_f2 l s _ ao cap b t w h1' h2' hv rfl hr (by omega) h4)
      by_cases ht : t.size = 0
      · obtain rfl := bs_nil ht
        by_cases hs : sumZ b = needZ s
        · exact fin true ⟨fun _ => ⟨h1', h2', .inl ⟨rfl, by omega, by omega, rfl, hr, hs⟩⟩, fun _ => rfl⟩ (rr_f5 l s _ ao cap b w h1' h2' hv rfl hr (by omega) (by omega) hs)
        · exact fin _ (no (fun q => by rcases q.2.2 with ⟨_, _, _, _, _, z⟩ | ⟨z, _⟩ | ⟨z, _⟩ <;> first | exact hs z | omega)) (rr_f4 l s _ ao cap b w h1' h2' hv rfl hr (by omega) (by omega) hs)
      · exact fin _ (no (fun q => by rcases q.2.2 with ⟨_, _, _, z, _, _⟩ | ⟨z, _⟩ | ⟨z, _⟩ <;> first | exact ht z | omega)) (rr_f3 l s _ ao cap b t w h1' h2' hv rfl hr (by omega) (by omega) ht)
    · exact fin _ (no (fun q => by rcases q.2.2 with ⟨_, _, _, _, z, _⟩ | ⟨z, _⟩ | ⟨z, _⟩ <;> first | exact hr z | omega)) (rr_f0 l s _ ao cap b t w h1' h2' hv rfl hr)
  by_cases k2 : k = 2
  · subst k2
    by_cases h3 : s = 0
    · by_cases h4 : b.length = 0
      · by_cases ht : t.size = 0
        · obtain rfl := bs_nil ht
          exact fin true ⟨fun _ => ⟨h1', h2', .inr (.inl ⟨rfl, h3, h4, rfl⟩)⟩, fun _ => rfl⟩ (rr_d4 l s _ ao cap w h1' h2' h3 h4)
        · exact fin _ (no (by omega)) (rr_d3 l s _ ao cap t w h1' h2' h3 h4 ht)
      · exact fin _ (no (by omega)) (rr_d2 l s _ ao cap t w h1' h2' h3 h4)
    · exact fin _ (no (by omega)) (rr_d1 l s _ ao cap t w h1' h2' h3)
  by_cases k3 : k = 3
  · subst k3
    have hc : t.data.toList.contains 0 = true → ¬ (0 ≤ l ∧ l ≤ 1000 ∧ ((3 = 1 ∧ 0 ≤ s ∧ s ≤ 4194304 ∧ t.size = 0 ∧ Right15 b ∧ sumZ b = needZ s) ∨ (3 = 2 ∧ s = 0 ∧ b.length = 0 ∧ t.size = 0) ∨ (3 = 3 ∧ t.size ≠ 0 ∧ t.size ≤ 256 ∧ zfree t ∧ s = t.size ∧ b.length = 0))) := fun hz q => by
      rcases q.2.2 with ⟨z, _⟩ | ⟨z, _⟩ | ⟨_, _, _, z, _⟩ <;> first | (unfold zfree at z; rw [hz] at z; cases z) | omega
    by_cases ht : t.size = 0
    · exact fin3 false hc (fun _ => no (by omega)) (rr_k1 l s _ ao cap t w h1' h2' hm (by omega))
    by_cases h3 : 256 < t.size
    · exact fin3 false hc (fun _ => no (by omega)) (rr_k2 l s _ ao cap t w h1' h2' hm (by omega) h3)
    by_cases h5 : s = t.size
    · by_cases h6 : b.length = 0
      · exact fin3 true hc (fun hz => ⟨fun _ => ⟨h1', h2', .inr (.inr ⟨rfl, ht, by omega, hz, h5, h6⟩)⟩, fun _ => rfl⟩) (rr_k5 l s _ ao cap t w h1' h2' hm (by omega) (by omega) h5 h6)
      · exact fin3 false hc (fun _ => no (by omega)) (rr_k4 l s _ ao cap t w h1' h2' hm (by omega) (by omega) h5 h6)
    · exact fin3 false hc (fun _ => no (by omega)) (rr_k3 l s _ ao cap t w h1' h2' hm (by omega) (by omega) h5)
  exact fin _ (no (by omega)) (rr_k l s _ ao cap k t w h1' h2' (by omega) (by omega) (by omega))
theorem rright16_yes (k : Nat) (l s : Int) (b : List (Int × Int)) (t : ByteArray) (B : Nat) (ao : Option Addr) (cap : Nat) (w : World) (hv : Rd2 w ao b) (hm : t.size ≤ maxLen) (hB : B = b.length) (h : Right16 k l s b t) :
    Calls Try.prog 15 #[.agg #[.int .u8 k, .int .i64 l, .int .i64 s, .slice ao B cap, .string t]] w fun e w' => e = .returned (.bool true) ∧ Gr [] w w' := by
  subst hB
  refine (rright16_dec k l s b t ao cap w hv hm).mono ?_
  rintro e w' ⟨⟨r, hr, rfl⟩, g⟩
  rw [hr.2 h]
  exact ⟨rfl, g⟩
theorem rright16_no (k : Nat) (l s : Int) (b : List (Int × Int)) (t : ByteArray) (B : Nat) (ao : Option Addr) (cap : Nat) (w : World) (hv : Rd2 w ao b) (hm : t.size ≤ maxLen) (hB : B = b.length) (h : ¬ Right16 k l s b t) :
    Calls Try.prog 15 #[.agg #[.int .u8 k, .int .i64 l, .int .i64 s, .slice ao B cap, .string t]] w fun e w' => e = .returned (.bool false) ∧ Gr [] w w' := by
  subst hB
  refine (rright16_dec k l s b t ao cap w hv hm).mono ?_
  rintro e w' ⟨⟨r, hr, rfl⟩, g⟩
  cases r with
  | true => exact absurd (hr.1 rfl) h
  | false => exact ⟨rfl, g⟩

end Go.Proofs.Ytpkhfdcokcchdab
