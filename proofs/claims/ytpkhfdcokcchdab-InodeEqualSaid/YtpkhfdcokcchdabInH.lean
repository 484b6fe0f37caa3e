/-
  Layer 16: the program's Right of any inode.
-/
import Derived.Test.YtpkhfdcokcchdabInG
namespace Go.Proofs.Ytpkhfdcokcchdab
open Go.RowKit

theorem bs_empty {t : ByteArray} (h : t.size ≠ 0) : t.toList.isEmpty = false := by
  rw [ByteArray.toList_eq]
  have := Lib.size_eq t
  cases hq : t.data.toList with
  | nil => rw [hq, List.length_nil] at this; omega
  | cons a b => rfl
theorem bs_nil {t : ByteArray} (h : t.size = 0) : t = ⟨#[]⟩ := by
  apply ByteArray.ext
  exact Array.size_eq_zero_iff.1 h

theorem ir_l0 (l s : Int) (B : Nat) (ao : Option Addr) (cap : Nat) (k : Nat) (t : ByteArray) (w : World) (h1 : l < 0) :
    Calls Try.prog 14 #[.agg #[.int .u8 k, .int .i64 l, .int .i64 s, .slice ao B cap, .string t]] w fun e w' => e = .returned (.bool false) ∧ Gr [] w w' := by
  have HG := Lib.hid ((Gr.refl [] w).alloc (Obj.cells #[.int .u8 k, .int .i64 l, .int .i64 s, .slice ao B cap, .string t] 31))
  go_enter Try.func14, Try.ntmps14
  go_wp2_with fail
  go_ret
  exact ⟨rfl, HG.out⟩
theorem ir_l1 (l s : Int) (B : Nat) (ao : Option Addr) (cap : Nat) (k : Nat) (t : ByteArray) (w : World) (h1 : 0 ≤ l) (h2 : 1000 < l) :
    Calls Try.prog 14 #[.agg #[.int .u8 k, .int .i64 l, .int .i64 s, .slice ao B cap, .string t]] w fun e w' => e = .returned (.bool false) ∧ Gr [] w w' := by
  have HG := Lib.hid ((Gr.refl [] w).alloc (Obj.cells #[.int .u8 k, .int .i64 l, .int .i64 s, .slice ao B cap, .string t] 31))
  go_enter Try.func14, Try.ntmps14
  go_wp2_with fail
  go_ret
  exact ⟨rfl, HG.out⟩
theorem ir_k (l s : Int) (B : Nat) (ao : Option Addr) (cap : Nat) (k : Nat) (t : ByteArray) (w : World) (h1 : 0 ≤ l) (h2 : l ≤ 1000) (hk1 : (k : Int) ≠ 1) (hk2 : (k : Int) ≠ 2) (hk3 : (k : Int) ≠ 3) :
    Calls Try.prog 14 #[.agg #[.int .u8 k, .int .i64 l, .int .i64 s, .slice ao B cap, .string t]] w fun e w' => e = .returned (.bool false) ∧ Gr [] w w' := by
  have HG := Lib.hid ((Gr.refl [] w).alloc (Obj.cells #[.int .u8 k, .int .i64 l, .int .i64 s, .slice ao B cap, .string t] 31))
  go_enter Try.func14, Try.ntmps14
  go_wp2_with fail
  go_ret
  exact ⟨rfl, HG.out⟩
theorem ir_d1 (l s : Int) (B : Nat) (ao : Option Addr) (cap : Nat) (t : ByteArray) (w : World) (h1 : 0 ≤ l) (h2 : l ≤ 1000) (h3 : s ≠ 0) :
    Calls Try.prog 14 #[.agg #[.int .u8 2, .int .i64 l, .int .i64 s, .slice ao B cap, .string t]] w fun e w' => e = .returned (.bool false) ∧ Gr [] w w' := by
  have HG := Lib.hid ((Gr.refl [] w).alloc (Obj.cells #[.int .u8 2, .int .i64 l, .int .i64 s, .slice ao B cap, .string t] 31))
  go_enter Try.func14, Try.ntmps14
  go_wp2_with fail
  go_ret
  exact ⟨rfl, HG.out⟩
theorem ir_d2 (l s : Int) (B : Nat) (ao : Option Addr) (cap : Nat) (t : ByteArray) (w : World) (h1 : 0 ≤ l) (h2 : l ≤ 1000) (h3 : s = 0) (h4 : B ≠ 0) :
    Calls Try.prog 14 #[.agg #[.int .u8 2, .int .i64 l, .int .i64 s, .slice ao B cap, .string t]] w fun e w' => e = .returned (.bool false) ∧ Gr [] w w' := by
  have HG := Lib.hid ((Gr.refl [] w).alloc (Obj.cells #[.int .u8 2, .int .i64 l, .int .i64 s, .slice ao B cap, .string t] 31))
  subst h3
  go_enter Try.func14, Try.ntmps14
  go_wp2_with fail
  go_ret
  exact ⟨rfl, HG.out⟩
theorem ir_d3 (l s : Int) (B : Nat) (ao : Option Addr) (cap : Nat) (t : ByteArray) (w : World) (h1 : 0 ≤ l) (h2 : l ≤ 1000) (h3 : s = 0) (h4 : B = 0) (ht : t.size ≠ 0) :
    Calls Try.prog 14 #[.agg #[.int .u8 2, .int .i64 l, .int .i64 s, .slice ao B cap, .string t]] w fun e w' => e = .returned (.bool false) ∧ Gr [] w w' := by
  have HG := Lib.hid ((Gr.refl [] w).alloc (Obj.cells #[.int .u8 2, .int .i64 l, .int .i64 s, .slice ao B cap, .string t] 31))
  subst h3 h4
  have ht2 := bs_empty ht
  go_enter Try.func14, Try.ntmps14
  go_wp2_with fail
  go_ret
  exact ⟨rfl, HG.out⟩
theorem ir_d4 (l s : Int) (B : Nat) (ao : Option Addr) (cap : Nat) (w : World) (h1 : 0 ≤ l) (h2 : l ≤ 1000) (h3 : s = 0) (h4 : B = 0) :
    Calls Try.prog 14 #[.agg #[.int .u8 2, .int .i64 l, .int .i64 s, .slice ao B cap, .string ⟨#[]⟩]] w fun e w' => e = .returned (.bool true) ∧ Gr [] w w' := by
  have HG := Lib.hid ((Gr.refl [] w).alloc (Obj.cells #[.int .u8 2, .int .i64 l, .int .i64 s, .slice ao B cap, .string ⟨#[]⟩] 31))
  subst h3 h4
  go_enter Try.func14, Try.ntmps14
  go_wp2_with fail
  go_ret
  exact ⟨rfl, HG.out⟩
theorem ir_k1 (l s : Int) (B : Nat) (ao : Option Addr) (cap : Nat) (w : World) (h1 : 0 ≤ l) (h2 : l ≤ 1000) :
    Calls Try.prog 14 #[.agg #[.int .u8 3, .int .i64 l, .int .i64 s, .slice ao B cap, .string ⟨#[]⟩]] w fun e w' => e = .returned (.bool false) ∧ Gr [] w w' := by
  have HG := Lib.hid ((Gr.refl [] w).alloc (Obj.cells #[.int .u8 3, .int .i64 l, .int .i64 s, .slice ao B cap, .string ⟨#[]⟩] 31))
  go_enter Try.func14, Try.ntmps14
  go_wp2_with fail
  go_ret
  exact ⟨rfl, HG.out⟩
theorem ir_k2 (l s : Int) (B : Nat) (ao : Option Addr) (cap : Nat) (t : ByteArray) (w : World) (h1 : 0 ≤ l) (h2 : l ≤ 1000) (ht : t.size ≠ 0) (h3 : 256 < t.size) :
    Calls Try.prog 14 #[.agg #[.int .u8 3, .int .i64 l, .int .i64 s, .slice ao B cap, .string t]] w fun e w' => e = .returned (.bool false) ∧ Gr [] w w' := by
  have HG := Lib.hid ((Gr.refl [] w).alloc (Obj.cells #[.int .u8 3, .int .i64 l, .int .i64 s, .slice ao B cap, .string t] 31))
  have ht2 := bs_empty ht
  go_enter Try.func14, Try.ntmps14
  go_wp2_with fail
  go_ret
  exact ⟨rfl, HG.out⟩
theorem ir_k3 (l s : Int) (B : Nat) (ao : Option Addr) (cap : Nat) (t : ByteArray) (w : World) (h1 : 0 ≤ l) (h2 : l ≤ 1000) (ht : t.size ≠ 0) (h3 : t.size ≤ 256) (hz : t.data.toList.contains 0 = true) :
    Calls Try.prog 14 #[.agg #[.int .u8 3, .int .i64 l, .int .i64 s, .slice ao B cap, .string t]] w fun e w' => e = .returned (.bool false) ∧ Gr [] w w' := by
  have HG := Lib.hid ((Gr.refl [] w).alloc (Obj.cells #[.int .u8 3, .int .i64 l, .int .i64 s, .slice ao B cap, .string t] 31))
  have ht2 := bs_empty ht
  go_enter Try.func14, Try.ntmps14
  go_wp2_with fail
  with_reducible refine (contains0 t _).mono ?_
  rintro e w1 ⟨rfl, rfl⟩
  have HZ := Lib.hid hz
  rw [hz]
  clear hz
  go_wp2_with fail
  go_ret
  exact ⟨rfl, HG.out⟩
theorem ir_k4 (l s : Int) (B : Nat) (ao : Option Addr) (cap : Nat) (t : ByteArray) (w : World) (h1 : 0 ≤ l) (h2 : l ≤ 1000) (ht : t.size ≠ 0) (h3 : t.size ≤ 256) (hz : t.data.toList.contains 0 = false) (h5 : s ≠ t.size) :
    Calls Try.prog 14 #[.agg #[.int .u8 3, .int .i64 l, .int .i64 s, .slice ao B cap, .string t]] w fun e w' => e = .returned (.bool false) ∧ Gr [] w w' := by
  have HG := Lib.hid ((Gr.refl [] w).alloc (Obj.cells #[.int .u8 3, .int .i64 l, .int .i64 s, .slice ao B cap, .string t] 31))
  have ht2 := bs_empty ht
  go_enter Try.func14, Try.ntmps14
  go_wp2_with fail
  with_reducible refine (contains0 t _).mono ?_
  rintro e w1 ⟨rfl, rfl⟩
  have HZ := Lib.hid hz
  rw [hz]
  clear hz
  go_wp2_with fail
  go_ret
  exact ⟨rfl, HG.out⟩
theorem ir_k5 (l s : Int) (B : Nat) (ao : Option Addr) (cap : Nat) (t : ByteArray) (w : World) (h1 : 0 ≤ l) (h2 : l ≤ 1000) (ht : t.size ≠ 0) (h3 : t.size ≤ 256) (hz : t.data.toList.contains 0 = false) (h5 : s = t.size) (h6 : B ≠ 0) :
    Calls Try.prog 14 #[.agg #[.int .u8 3, .int .i64 l, .int .i64 s, .slice ao B cap, .string t]] w fun e w' => e = .returned (.bool false) ∧ Gr [] w w' := by
  have HG := Lib.hid ((Gr.refl [] w).alloc (Obj.cells #[.int .u8 3, .int .i64 l, .int .i64 s, .slice ao B cap, .string t] 31))
  have ht2 := bs_empty ht
  have h6d : ((B : Int) == 0) = false := by simpa using h6
  subst h5
  go_enter Try.func14, Try.ntmps14
  go_wp2_with fail
  with_reducible refine (contains0 t _).mono ?_
  rintro e w1 ⟨rfl, rfl⟩
  have HZ := Lib.hid hz
  rw [hz]
  clear hz
  go_wp2_with fail
  go_ret
  exact ⟨rfl, HG.out⟩
theorem ir_k6 (l s : Int) (B : Nat) (ao : Option Addr) (cap : Nat) (t : ByteArray) (w : World) (h1 : 0 ≤ l) (h2 : l ≤ 1000) (ht : t.size ≠ 0) (h3 : t.size ≤ 256) (hz : t.data.toList.contains 0 = false) (h5 : s = t.size) (h6 : B = 0) :
    Calls Try.prog 14 #[.agg #[.int .u8 3, .int .i64 l, .int .i64 s, .slice ao B cap, .string t]] w fun e w' => e = .returned (.bool true) ∧ Gr [] w w' := by
  have HG := Lib.hid ((Gr.refl [] w).alloc (Obj.cells #[.int .u8 3, .int .i64 l, .int .i64 s, .slice ao B cap, .string t] 31))
  have ht2 := bs_empty ht
  subst h5 h6
  go_enter Try.func14, Try.ntmps14
  go_wp2_with fail
  with_reducible refine (contains0 t _).mono ?_
  rintro e w1 ⟨rfl, rfl⟩
  have HZ := Lib.hid hz
  rw [hz]
  clear hz
  go_wp2_with fail
  go_ret
  exact ⟨rfl, HG.out⟩
theorem ir_f1 (l s : Int) (B : Nat) (ao : Option Addr) (cap : Nat) (t : ByteArray) (w : World) (h1 : 0 ≤ l) (h2 : l ≤ 1000) (h3 : s < 0) :
    Calls Try.prog 14 #[.agg #[.int .u8 1, .int .i64 l, .int .i64 s, .slice ao B cap, .string t]] w fun e w' => e = .returned (.bool false) ∧ Gr [] w w' := by
  have HG := Lib.hid ((Gr.refl [] w).alloc (Obj.cells #[.int .u8 1, .int .i64 l, .int .i64 s, .slice ao B cap, .string t] 31))
  have HI := Lib.hid (Holds.new w #[.int .u8 1, .int .i64 l, .int .i64 s, .slice ao B cap, .string t] 31)
  have h3d : decide (0 ≤ s) = false := decide_eq_false (by omega)
  go_enter Try.func14, Try.ntmps14
  go_wp2_with fail
  generalize w.alloc (Obj.cells #[.int .u8 1, .int .i64 l, .int .i64 s, .slice ao B cap, .string t] 31) = w1 at *
  have i0 := kp_cell (HI.out.cell 0)
  have i2 := kp_cell (HI.out.cell 2)
  have i3 := kp_cell (HI.out.cell 3)
  have i4 := kp_cell (HI.out.cell 4)
  have hne := kp_ne w1
  refine wp_region_kp (by kernel_rfl) (by kernel_rfl) ?_
  repeat (go_big_quiet_step (fail))
  with_reducible refine wpQuiet_nil ?_
  rintro _ ⟨y, rfl⟩
  have HE := Lib.hid (HG.out.nextB y.h)
  go_wp2_with fail
  go_ret
  exact ⟨rfl, HE.out⟩
theorem ir_f2 (l s : Int) (B : Nat) (ao : Option Addr) (cap : Nat) (t : ByteArray) (w : World) (h1 : 0 ≤ l) (h2 : l ≤ 1000) (h3 : 0 ≤ s) (h4 : 4194304 < s) :
    Calls Try.prog 14 #[.agg #[.int .u8 1, .int .i64 l, .int .i64 s, .slice ao B cap, .string t]] w fun e w' => e = .returned (.bool false) ∧ Gr [] w w' := by
  have HG := Lib.hid ((Gr.refl [] w).alloc (Obj.cells #[.int .u8 1, .int .i64 l, .int .i64 s, .slice ao B cap, .string t] 31))
  have HI := Lib.hid (Holds.new w #[.int .u8 1, .int .i64 l, .int .i64 s, .slice ao B cap, .string t] 31)
  have h3d : decide (0 ≤ s) = true := decide_eq_true h3
  have h4d : decide (s ≤ 4194304) = false := decide_eq_false (by omega)
  go_enter Try.func14, Try.ntmps14
  go_wp2_with fail
  generalize w.alloc (Obj.cells #[.int .u8 1, .int .i64 l, .int .i64 s, .slice ao B cap, .string t] 31) = w1 at *
  have i0 := kp_cell (HI.out.cell 0)
  have i2 := kp_cell (HI.out.cell 2)
  have i3 := kp_cell (HI.out.cell 3)
  have i4 := kp_cell (HI.out.cell 4)
  have hne := kp_ne w1
  refine wp_region_kp (by kernel_rfl) (by kernel_rfl) ?_
  repeat (go_big_quiet_step (fail))
  with_reducible refine wpQuiet_nil ?_
  rintro _ ⟨y, rfl⟩
  have HE := Lib.hid (HG.out.nextB y.h)
  go_wp2_with fail
  go_ret
  exact ⟨rfl, HE.out⟩
theorem ir_f3 (l s : Int) (B : Nat) (ao : Option Addr) (cap : Nat) (t : ByteArray) (w : World) (h1 : 0 ≤ l) (h2 : l ≤ 1000) (h3 : 0 ≤ s) (h4 : s ≤ 4194304) (ht : t.size ≠ 0) :
    Calls Try.prog 14 #[.agg #[.int .u8 1, .int .i64 l, .int .i64 s, .slice ao B cap, .string t]] w fun e w' => e = .returned (.bool false) ∧ Gr [] w w' := by
  have HG := Lib.hid ((Gr.refl [] w).alloc (Obj.cells #[.int .u8 1, .int .i64 l, .int .i64 s, .slice ao B cap, .string t] 31))
  have HI := Lib.hid (Holds.new w #[.int .u8 1, .int .i64 l, .int .i64 s, .slice ao B cap, .string t] 31)
  have h3d : decide (0 ≤ s) = true := decide_eq_true h3
  have h4d : decide (s ≤ 4194304) = true := decide_eq_true h4
  have ht2 := bs_empty ht
  go_enter Try.func14, Try.ntmps14
  go_wp2_with fail
  generalize w.alloc (Obj.cells #[.int .u8 1, .int .i64 l, .int .i64 s, .slice ao B cap, .string t] 31) = w1 at *
  have i0 := kp_cell (HI.out.cell 0)
  have i2 := kp_cell (HI.out.cell 2)
  have i3 := kp_cell (HI.out.cell 3)
  have i4 := kp_cell (HI.out.cell 4)
  have hne := kp_ne w1
  refine wp_region_kp (by kernel_rfl) (by kernel_rfl) ?_
  repeat (go_big_quiet_step (fail))
  with_reducible refine wpQuiet_nil ?_
  rintro _ ⟨y, rfl⟩
  have HE := Lib.hid (HG.out.nextB y.h)
  go_wp2_with fail
  go_ret
  exact ⟨rfl, HE.out⟩
theorem ir_f4 (l s : Int) (B : Nat) (ao : Option Addr) (cap : Nat) (b : List (Int × Int)) (w : World) (h1 : 0 ≤ l) (h2 : l ≤ 1000) (h3 : 0 ≤ s) (h4 : s ≤ 4194304) (hv : Rd2 w ao b) (hB : B = b.length) (hr : ¬ Right15 b) :
    Calls Try.prog 14 #[.agg #[.int .u8 1, .int .i64 l, .int .i64 s, .slice ao B cap, .string ⟨#[]⟩]] w fun e w' => e = .returned (.bool false) ∧ Gr [] w w' := by
  have HG := Lib.hid ((Gr.refl [] w).alloc (Obj.cells #[.int .u8 1, .int .i64 l, .int .i64 s, .slice ao B cap, .string ⟨#[]⟩] 31))
  have HI := Lib.hid (Holds.new w #[.int .u8 1, .int .i64 l, .int .i64 s, .slice ao B cap, .string ⟨#[]⟩] 31)
  have h3d : decide (0 ≤ s) = true := decide_eq_true h3
  have h4d : decide (s ≤ 4194304) = true := decide_eq_true h4
  have KR := Lib.hid (fun x : Cls (Kp (w.alloc (Obj.cells #[.int .u8 1, .int .i64 l, .int .i64 s, .slice ao B cap, .string ⟨#[]⟩] 31))) => (hv.gr0 ((Gr.refl [] w).alloc _)).below x.h)
  have HBL := Lib.hid hB
  have HRR := Lib.hid hr
  clear hv hB hr
  go_enter Try.func14, Try.ntmps14
  go_wp2_with fail
  generalize w.alloc (Obj.cells #[.int .u8 1, .int .i64 l, .int .i64 s, .slice ao B cap, .string ⟨#[]⟩] 31) = w1 at *
  have i0 := kp_cell (HI.out.cell 0)
  have i2 := kp_cell (HI.out.cell 2)
  have i3 := kp_cell (HI.out.cell 3)
  have i4 := kp_cell (HI.out.cell 4)
  have hne := kp_ne w1
  have P0 := Lib.hid (fun x : Cls (Kp w1) => calls_below (eright_no b B ao cap x.w (KR.out x) HBL.out HRR.out))
  refine wp_region_kp (by kernel_rfl) (by kernel_rfl) ?_
  repeat (go_big_quiet_step ((rename_i x; first
    | with_reducible exact kp_call x (P0.out x))))
  with_reducible refine wpQuiet_nil ?_
  rintro _ ⟨y, rfl⟩
  have HE := Lib.hid (HG.out.nextB y.h)
  go_wp2_with fail
  go_ret
  exact ⟨rfl, HE.out⟩
theorem ir_f5 (l s : Int) (B : Nat) (ao : Option Addr) (cap : Nat) (b : List (Int × Int)) (w : World) (h1 : 0 ≤ l) (h2 : l ≤ 1000) (h3 : 0 ≤ s) (h4 : s ≤ 4194304) (hv : Rd2 w ao b) (hB : B = b.length) (hr : Right15 b) (hs : sumZ b ≠ needZ s) :
    Calls Try.prog 14 #[.agg #[.int .u8 1, .int .i64 l, .int .i64 s, .slice ao B cap, .string ⟨#[]⟩]] w fun e w' => e = .returned (.bool false) ∧ Gr [] w w' := by
  have HG := Lib.hid ((Gr.refl [] w).alloc (Obj.cells #[.int .u8 1, .int .i64 l, .int .i64 s, .slice ao B cap, .string ⟨#[]⟩] 31))
  have HI := Lib.hid (Holds.new w #[.int .u8 1, .int .i64 l, .int .i64 s, .slice ao B cap, .string ⟨#[]⟩] 31)
  have h3d : decide (0 ≤ s) = true := decide_eq_true h3
  have h4d : decide (s ≤ 4194304) = true := decide_eq_true h4
  have KR := Lib.hid (fun x : Cls (Kp (w.alloc (Obj.cells #[.int .u8 1, .int .i64 l, .int .i64 s, .slice ao B cap, .string ⟨#[]⟩] 31))) => (hv.gr0 ((Gr.refl [] w).alloc _)).below x.h)
  have HBL := Lib.hid hB
  have HRR := Lib.hid hr
  obtain ⟨Z, hZ⟩ : ∃ Z, Z = sumZ b := ⟨_, rfl⟩
  obtain ⟨Y, hY⟩ : ∃ Y, Y = needZ s := ⟨_, rfl⟩
  rw [← hZ, ← hY] at hs
  have HZ := Lib.hid hZ
  have HY := Lib.hid hY
  clear hv hB hr hZ hY
  have hsd : (Z == Y) = false := by simpa using hs
  go_enter Try.func14, Try.ntmps14
  go_wp2_with fail
  generalize w.alloc (Obj.cells #[.int .u8 1, .int .i64 l, .int .i64 s, .slice ao B cap, .string ⟨#[]⟩] 31) = w1 at *
  have i0 := kp_cell (HI.out.cell 0)
  have i2 := kp_cell (HI.out.cell 2)
  have i3 := kp_cell (HI.out.cell 3)
  have i4 := kp_cell (HI.out.cell 4)
  have hne := kp_ne w1
  have P0 := Lib.hid (fun x : Cls (Kp w1) => calls_below (eright_yes b B ao cap x.w (KR.out x) HBL.out HRR.out))
  have P1 := Lib.hid (fun x : Cls (Kp w1) => calls_below (eblocks_any b B Z ao cap x.w (KR.out x) HBL.out HRR.out.small HZ.out))
  have P2 := Lib.hid (fun x : Cls (Kp w1) => calls_below (need_any s x.w (by omega)))
  rw [← HY.out] at P2
  refine wp_region_kp (by kernel_rfl) (by kernel_rfl) ?_
  repeat (go_big_quiet_step ((rename_i x; first
    | with_reducible exact kp_call x (P0.out x)
    | with_reducible exact kp_call x (P1.out x)
    | with_reducible exact kp_call x (P2.out x))))
  with_reducible refine wpQuiet_nil ?_
  rintro _ ⟨y, rfl⟩
  have HE := Lib.hid (HG.out.nextB y.h)
  go_wp2_with fail
  go_ret
  exact ⟨rfl, HE.out⟩
theorem ir_f6 (l s : Int) (B : Nat) (ao : Option Addr) (cap : Nat) (b : List (Int × Int)) (w : World) (h1 : 0 ≤ l) (h2 : l ≤ 1000) (h3 : 0 ≤ s) (h4 : s ≤ 4194304) (hv : Rd2 w ao b) (hB : B = b.length) (hr : Right15 b) (hs : sumZ b = needZ s) :
    Calls Try.prog 14 #[.agg #[.int .u8 1, .int .i64 l, .int .i64 s, .slice ao B cap, .string ⟨#[]⟩]] w fun e w' => e = .returned (.bool true) ∧ Gr [] w w' := by
  have HG := Lib.hid ((Gr.refl [] w).alloc (Obj.cells #[.int .u8 1, .int .i64 l, .int .i64 s, .slice ao B cap, .string ⟨#[]⟩] 31))
  have HI := Lib.hid (Holds.new w #[.int .u8 1, .int .i64 l, .int .i64 s, .slice ao B cap, .string ⟨#[]⟩] 31)
  have h3d : decide (0 ≤ s) = true := decide_eq_true h3
  have h4d : decide (s ≤ 4194304) = true := decide_eq_true h4
  have KR := Lib.hid (fun x : Cls (Kp (w.alloc (Obj.cells #[.int .u8 1, .int .i64 l, .int .i64 s, .slice ao B cap, .string ⟨#[]⟩] 31))) => (hv.gr0 ((Gr.refl [] w).alloc _)).below x.h)
  have HBL := Lib.hid hB
  have HRR := Lib.hid hr
  obtain ⟨Z, hZ⟩ : ∃ Z, Z = sumZ b := ⟨_, rfl⟩
  obtain ⟨Y, hY⟩ : ∃ Y, Y = needZ s := ⟨_, rfl⟩
  rw [← hZ, ← hY] at hs
  have HZ := Lib.hid hZ
  have HY := Lib.hid hY
  clear hv hB hr hZ hY
  subst hs
  go_enter Try.func14, Try.ntmps14
  go_wp2_with fail
  generalize w.alloc (Obj.cells #[.int .u8 1, .int .i64 l, .int .i64 s, .slice ao B cap, .string ⟨#[]⟩] 31) = w1 at *
  have i0 := kp_cell (HI.out.cell 0)
  have i2 := kp_cell (HI.out.cell 2)
  have i3 := kp_cell (HI.out.cell 3)
  have i4 := kp_cell (HI.out.cell 4)
  have hne := kp_ne w1
  have P0 := Lib.hid (fun x : Cls (Kp w1) => calls_below (eright_yes b B ao cap x.w (KR.out x) HBL.out HRR.out))
  have P1 := Lib.hid (fun x : Cls (Kp w1) => calls_below (eblocks_any b B Z ao cap x.w (KR.out x) HBL.out HRR.out.small HZ.out))
  have P2 := Lib.hid (fun x : Cls (Kp w1) => calls_below (need_any s x.w (by omega)))
  rw [← HY.out] at P2
  refine wp_region_kp (by kernel_rfl) (by kernel_rfl) ?_
  repeat (go_big_quiet_step ((rename_i x; first
    | with_reducible exact kp_call x (P0.out x)
    | with_reducible exact kp_call x (P1.out x)
    | with_reducible exact kp_call x (P2.out x))))
  with_reducible refine wpQuiet_nil ?_
  rintro _ ⟨y, rfl⟩
  have HE := Lib.hid (HG.out.nextB y.h)
  go_wp2_with fail
  go_ret
  exact ⟨rfl, HE.out⟩

theorem iright_dec (k : Nat) (l s : Int) (b : List (Int × Int)) (t : ByteArray) (ao : Option Addr) (cap : Nat) (w : World) (hv : Rd2 w ao b) :
    Calls Try.prog 14 #[.agg #[.int .u8 k, .int .i64 l, .int .i64 s, .slice ao b.length cap, .string t]] w fun e w' => (∃ r : Bool, (r = true ↔ Right16 k l s b t) ∧ e = .returned (.bool r)) ∧ Gr [] w w' := by
  have no : ∀ {P : Prop}, ¬ P → (false = true ↔ P) := fun h => ⟨fun e => (by cases e), fun e => absurd e h⟩
  have fin : ∀ (r : Bool), (r = true ↔ Right16 k l s b t) → Calls Try.prog 14 #[.agg #[.int .u8 k, .int .i64 l, .int .i64 s, .slice ao b.length cap, .string t]] w (fun e w' => e = .returned (.bool r) ∧ Gr [] w w') → Calls Try.prog 14 #[.agg #[.int .u8 k, .int .i64 l, .int .i64 s, .slice ao b.length cap, .string t]] w fun e w' => (∃ r : Bool, (r = true ↔ Right16 k l s b t) ∧ e = .returned (.bool r)) ∧ Gr [] w w' :=
    fun r hr h => h.mono fun e w' q => ⟨⟨r, hr, q.1⟩, q.2⟩
  have ne : ∀ {a : Prop}, (Right16 k l s b t → a) → ¬ a → (false = true ↔ Right16 k l s b t) := fun h na => no (fun r => na (h r))
  unfold Right16 at *
  by_cases h1 : l < 0
  · exact fin _ (no (by omega)) (ir_l0 l s _ ao cap k t w h1)
  by_cases h2 : 1000 < l
  · exact fin _ (no (by omega)) (ir_l1 l s _ ao cap k t w (by omega) h2)
  have h1' : 0 ≤ l := by omega
  have h2' : l ≤ 1000 := by omega
  by_cases k1 : k = 1
  · subst k1
    by_cases h3 : s < 0
    · exact fin _ (no (by omega)) (ir_f1 l s _ ao cap t w h1' h2' h3)
    by_cases h4 : 4194304 < s
    · exact fin _ (no (by omega)) (ir_f2 l s _ ao cap t w h1' h2' (by omega) h4)
    by_cases ht : t.size = 0
    · obtain rfl := bs_nil ht
      by_cases hr : Right15 b
      · by_cases hs : sumZ b = needZ s
        · exact fin true ⟨fun _ => ⟨h1', h2', .inl ⟨rfl, by omega, by omega, rfl, hr, hs⟩⟩, fun _ => rfl⟩ (ir_f6 l s _ ao cap b w h1' h2' (by omega) (by omega) hv rfl hr hs)
        · exact fin _ (no (fun q => by rcases q.2.2 with ⟨_, _, _, _, _, z⟩ | ⟨z, _⟩ | ⟨z, _⟩ <;> first | exact hs z | omega)) (ir_f5 l s _ ao cap b w h1' h2' (by omega) (by omega) hv rfl hr hs)
      · exact fin _ (no (fun q => by rcases q.2.2 with ⟨_, _, _, _, z, _⟩ | ⟨z, _⟩ | ⟨z, _⟩ <;> first | exact hr z | omega)) (ir_f4 l s _ ao cap b w h1' h2' (by omega) (by omega) hv rfl hr)
    · exact fin _ (no (fun q => by rcases q.2.2 with ⟨_, _, _, z, _, _⟩ | ⟨z, _⟩ | ⟨z, _⟩ <;> first | exact ht z | omega)) (ir_f3 l s _ ao cap t w h1' h2' (by omega) (by omega) ht)
  by_cases k2 : k = 2
  · subst k2
    by_cases h3 : s = 0
    · by_cases h4 : b.length = 0
      · by_cases ht : t.size = 0
        · obtain rfl := bs_nil ht
          exact fin true ⟨fun _ => ⟨h1', h2', .inr (.inl ⟨rfl, h3, h4, rfl⟩)⟩, fun _ => rfl⟩ (ir_d4 l s _ ao cap w h1' h2' h3 h4)
        · exact fin _ (no (by omega)) (ir_d3 l s _ ao cap t w h1' h2' h3 h4 ht)
      · exact fin _ (no (by omega)) (ir_d2 l s _ ao cap t w h1' h2' h3 h4)
    · exact fin _ (no (by omega)) (ir_d1 l s _ ao cap t w h1' h2' h3)
  by_cases k3 : k = 3
  · subst k3
    by_cases ht : t.size = 0
    · obtain rfl := bs_nil ht
      exact fin _ (no (fun q => by rcases q.2.2 with ⟨z, _⟩ | ⟨z, _⟩ | ⟨_, z, _⟩ <;> first | exact z rfl | omega)) (ir_k1 l s _ ao cap w h1' h2')
    by_cases h3 : 256 < t.size
    · exact fin _ (no (by omega)) (ir_k2 l s _ ao cap t w h1' h2' ht h3)
    cases hz : t.data.toList.contains 0 with
    | true => exact fin _ (no (fun q => by rcases q.2.2 with ⟨z, _⟩ | ⟨z, _⟩ | ⟨_, _, _, z, _⟩ <;> first | (unfold zfree at z; rw [hz] at z; cases z) | omega)) (ir_k3 l s _ ao cap t w h1' h2' ht (by omega) hz)
    | false =>
      by_cases h5 : s = t.size
      · by_cases h6 : b.length = 0
        · exact fin true ⟨fun _ => ⟨h1', h2', .inr (.inr ⟨rfl, ht, by omega, hz, h5, h6⟩)⟩, fun _ => rfl⟩ (ir_k6 l s _ ao cap t w h1' h2' ht (by omega) hz h5 h6)
        · exact fin _ (no (by omega)) (ir_k5 l s _ ao cap t w h1' h2' ht (by omega) hz h5 h6)
      · exact fin _ (no (by omega)) (ir_k4 l s _ ao cap t w h1' h2' ht (by omega) hz h5)
  exact fin _ (no (by omega)) (ir_k l s _ ao cap k t w h1' h2' (by omega) (by omega) (by omega))
theorem iright_yes (k : Nat) (l s : Int) (b : List (Int × Int)) (t : ByteArray) (B : Nat) (ao : Option Addr) (cap : Nat) (w : World) (hv : Rd2 w ao b) (hB : B = b.length) (h : Right16 k l s b t) :
    Calls Try.prog 14 #[.agg #[.int .u8 k, .int .i64 l, .int .i64 s, .slice ao B cap, .string t]] w fun e w' => e = .returned (.bool true) ∧ Gr [] w w' := by
  subst hB
  refine (iright_dec k l s b t ao cap w hv).mono ?_
  rintro e w' ⟨⟨r, hr, rfl⟩, g⟩
  rw [hr.2 h]
  exact ⟨rfl, g⟩
theorem iright_no (k : Nat) (l s : Int) (b : List (Int × Int)) (t : ByteArray) (B : Nat) (ao : Option Addr) (cap : Nat) (w : World) (hv : Rd2 w ao b) (hB : B = b.length) (h : ¬ Right16 k l s b t) :
    Calls Try.prog 14 #[.agg #[.int .u8 k, .int .i64 l, .int .i64 s, .slice ao B cap, .string t]] w fun e w' => e = .returned (.bool false) ∧ Gr [] w w' := by
  subst hB
  refine (iright_dec k l s b t ao cap w hv).mono ?_
  rintro e w' ⟨⟨r, hr, rfl⟩, g⟩
  cases r with
  | true => exact absurd (hr.1 rfl) h
  | false => exact ⟨rfl, g⟩

end Go.Proofs.Ytpkhfdcokcchdab
