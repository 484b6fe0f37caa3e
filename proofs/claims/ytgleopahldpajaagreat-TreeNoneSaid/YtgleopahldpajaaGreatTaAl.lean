/-
  TaAl: InH, TrJ, TrK.
-/
import Derived.Test.YtgleopahldpajaaGreatTaAg
import Derived.Test.YtgleopahldpajaaGreatTaAk
import Derived.Laws.AppendOwnNone
import Derived.WalkSpells

set_option linter.unusedVariables false

/-
  Layer 16: the program's Right of any inode.
-/
namespace Go.Proofs.YtgleopahldpajaaGreat
open Go.RowKit

theorem calls_blw {P : Program} {f : FuncId} {args : Array Value} {w : World} {v : Value} (h : Calls P f args w fun e w' => e = .returned v ∧ Gr [] w w') : Calls P f args w fun e w' => e = .returned v ∧ Below w.heap.size w w' :=
  h.mono fun _ _ q => ⟨q.1, q.2.below0⟩
theorem bs_emptyI {t : ByteArray} (h : t.size ≠ 0) : t.toList.isEmpty = false := by
  rw [ByteArray.toList_eq]
  have := Lib.size_eq t
  cases hq : t.data.toList with
  | nil => rw [hq, List.length_nil] at this; omega
  | cons a b => rfl
theorem bs_nil {t : ByteArray} (h : t.size = 0) : t = ⟨#[]⟩ := by
  apply ByteArray.ext
  exact Array.size_eq_zero_iff.1 h

theorem ir_l0 (l s : Int) (B : Nat) (ao : Option Addr) (cap : Nat) (k : Nat) (t : ByteArray) (w : World) (h1 : l < 0) :
    Calls Tryz.prog 35 #[.agg #[.int .u8 k, .int .i64 l, .int .i64 s, .slice ao B cap, .string t]] w fun e w' => e = .returned (.bool false) ∧ Gr [] w w' := by
  have HG := Lib.hid ((Gr.refl [] w).alloc (Obj.cells #[.int .u8 k, .int .i64 l, .int .i64 s, .slice ao B cap, .string t] 42))
  go_enter Tryz.func35, Tryz.ntmps35
  go_wp2_with fail
  go_ret
  exact ⟨rfl, HG.out⟩
theorem ir_l1 (l s : Int) (B : Nat) (ao : Option Addr) (cap : Nat) (k : Nat) (t : ByteArray) (w : World) (h1 : 0 ≤ l) (h2 : 1000 < l) :
    Calls Tryz.prog 35 #[.agg #[.int .u8 k, .int .i64 l, .int .i64 s, .slice ao B cap, .string t]] w fun e w' => e = .returned (.bool false) ∧ Gr [] w w' := by
  have HG := Lib.hid ((Gr.refl [] w).alloc (Obj.cells #[.int .u8 k, .int .i64 l, .int .i64 s, .slice ao B cap, .string t] 42))
  go_enter Tryz.func35, Tryz.ntmps35
  go_wp2_with fail
  go_ret
  exact ⟨rfl, HG.out⟩
theorem ir_k (l s : Int) (B : Nat) (ao : Option Addr) (cap : Nat) (k : Nat) (t : ByteArray) (w : World) (h1 : 0 ≤ l) (h2 : l ≤ 1000) (hk1 : (k : Int) ≠ 1) (hk2 : (k : Int) ≠ 2) (hk3 : (k : Int) ≠ 3) :
    Calls Tryz.prog 35 #[.agg #[.int .u8 k, .int .i64 l, .int .i64 s, .slice ao B cap, .string t]] w fun e w' => e = .returned (.bool false) ∧ Gr [] w w' := by
  have HG := Lib.hid ((Gr.refl [] w).alloc (Obj.cells #[.int .u8 k, .int .i64 l, .int .i64 s, .slice ao B cap, .string t] 42))
  go_enter Tryz.func35, Tryz.ntmps35
  go_wp2_with fail
  go_ret
  exact ⟨rfl, HG.out⟩
theorem ir_d1 (l s : Int) (B : Nat) (ao : Option Addr) (cap : Nat) (t : ByteArray) (w : World) (h1 : 0 ≤ l) (h2 : l ≤ 1000) (h3 : s ≠ 0) :
    Calls Tryz.prog 35 #[.agg #[.int .u8 2, .int .i64 l, .int .i64 s, .slice ao B cap, .string t]] w fun e w' => e = .returned (.bool false) ∧ Gr [] w w' := by
  have HG := Lib.hid ((Gr.refl [] w).alloc (Obj.cells #[.int .u8 2, .int .i64 l, .int .i64 s, .slice ao B cap, .string t] 42))
  go_enter Tryz.func35, Tryz.ntmps35
  go_wp2_with fail
  go_ret
  exact ⟨rfl, HG.out⟩
theorem ir_d2 (l s : Int) (B : Nat) (ao : Option Addr) (cap : Nat) (t : ByteArray) (w : World) (h1 : 0 ≤ l) (h2 : l ≤ 1000) (h3 : s = 0) (h4 : B ≠ 0) :
    Calls Tryz.prog 35 #[.agg #[.int .u8 2, .int .i64 l, .int .i64 s, .slice ao B cap, .string t]] w fun e w' => e = .returned (.bool false) ∧ Gr [] w w' := by
  have HG := Lib.hid ((Gr.refl [] w).alloc (Obj.cells #[.int .u8 2, .int .i64 l, .int .i64 s, .slice ao B cap, .string t] 42))
  subst h3
  go_enter Tryz.func35, Tryz.ntmps35
  go_wp2_with fail
  go_ret
  exact ⟨rfl, HG.out⟩
theorem ir_d3 (l s : Int) (B : Nat) (ao : Option Addr) (cap : Nat) (t : ByteArray) (w : World) (h1 : 0 ≤ l) (h2 : l ≤ 1000) (h3 : s = 0) (h4 : B = 0) (ht : t.size ≠ 0) :
    Calls Tryz.prog 35 #[.agg #[.int .u8 2, .int .i64 l, .int .i64 s, .slice ao B cap, .string t]] w fun e w' => e = .returned (.bool false) ∧ Gr [] w w' := by
  have HG := Lib.hid ((Gr.refl [] w).alloc (Obj.cells #[.int .u8 2, .int .i64 l, .int .i64 s, .slice ao B cap, .string t] 42))
  subst h3 h4
  have ht2 := bs_emptyI ht
  go_enter Tryz.func35, Tryz.ntmps35
  go_wp2_with fail
  go_ret
  exact ⟨rfl, HG.out⟩
theorem ir_d4 (l s : Int) (B : Nat) (ao : Option Addr) (cap : Nat) (w : World) (h1 : 0 ≤ l) (h2 : l ≤ 1000) (h3 : s = 0) (h4 : B = 0) :
    Calls Tryz.prog 35 #[.agg #[.int .u8 2, .int .i64 l, .int .i64 s, .slice ao B cap, .string ⟨#[]⟩]] w fun e w' => e = .returned (.bool true) ∧ Gr [] w w' := by
  have HG := Lib.hid ((Gr.refl [] w).alloc (Obj.cells #[.int .u8 2, .int .i64 l, .int .i64 s, .slice ao B cap, .string ⟨#[]⟩] 42))
  subst h3 h4
  go_enter Tryz.func35, Tryz.ntmps35
  go_wp2_with fail
  go_ret
  exact ⟨rfl, HG.out⟩
theorem ir_k1 (l s : Int) (B : Nat) (ao : Option Addr) (cap : Nat) (w : World) (h1 : 0 ≤ l) (h2 : l ≤ 1000) :
    Calls Tryz.prog 35 #[.agg #[.int .u8 3, .int .i64 l, .int .i64 s, .slice ao B cap, .string ⟨#[]⟩]] w fun e w' => e = .returned (.bool false) ∧ Gr [] w w' := by
  have HG := Lib.hid ((Gr.refl [] w).alloc (Obj.cells #[.int .u8 3, .int .i64 l, .int .i64 s, .slice ao B cap, .string ⟨#[]⟩] 42))
  go_enter Tryz.func35, Tryz.ntmps35
  go_wp2_with fail
  go_ret
  exact ⟨rfl, HG.out⟩
theorem ir_k2 (l s : Int) (B : Nat) (ao : Option Addr) (cap : Nat) (t : ByteArray) (w : World) (h1 : 0 ≤ l) (h2 : l ≤ 1000) (ht : t.size ≠ 0) (h3 : 256 < t.size) :
    Calls Tryz.prog 35 #[.agg #[.int .u8 3, .int .i64 l, .int .i64 s, .slice ao B cap, .string t]] w fun e w' => e = .returned (.bool false) ∧ Gr [] w w' := by
  have HG := Lib.hid ((Gr.refl [] w).alloc (Obj.cells #[.int .u8 3, .int .i64 l, .int .i64 s, .slice ao B cap, .string t] 42))
  have ht2 := bs_emptyI ht
  go_enter Tryz.func35, Tryz.ntmps35
  go_wp2_with fail
  go_ret
  exact ⟨rfl, HG.out⟩
theorem ir_k3 (l s : Int) (B : Nat) (ao : Option Addr) (cap : Nat) (t : ByteArray) (w : World) (h1 : 0 ≤ l) (h2 : l ≤ 1000) (ht : t.size ≠ 0) (h3 : t.size ≤ 256) (hz : t.data.toList.contains 0 = true) :
    Calls Tryz.prog 35 #[.agg #[.int .u8 3, .int .i64 l, .int .i64 s, .slice ao B cap, .string t]] w fun e w' => e = .returned (.bool false) ∧ Gr [] w w' := by
  have HG := Lib.hid ((Gr.refl [] w).alloc (Obj.cells #[.int .u8 3, .int .i64 l, .int .i64 s, .slice ao B cap, .string t] 42))
  have ht2 := bs_emptyI ht
  go_enter Tryz.func35, Tryz.ntmps35
  go_wp2_with fail
  with_reducible refine (contains0 t _).mono ?_
  rintro e w1 ⟨rfl, rfl⟩
  have HZ := Lib.hid hz
  rw [hz]
  clear hz
  go_wp2_with fail
  go_ret
  exact ⟨rfl, HG.out⟩
theorem ir_k4 (l s : Int) (B : Nat) (ao : Option Addr) (cap : Nat) (t : ByteArray) (w : World) (h1 : 0 ≤ l) (h2 : l ≤ 1000) (ht : t.size ≠ 0) (h3 : t.size ≤ 256) (hz : t.data.toList.contains 0 = false) (h5 : s ≠ t.size) :
    Calls Tryz.prog 35 #[.agg #[.int .u8 3, .int .i64 l, .int .i64 s, .slice ao B cap, .string t]] w fun e w' => e = .returned (.bool false) ∧ Gr [] w w' := by
  have HG := Lib.hid ((Gr.refl [] w).alloc (Obj.cells #[.int .u8 3, .int .i64 l, .int .i64 s, .slice ao B cap, .string t] 42))
  have ht2 := bs_emptyI ht
  go_enter Tryz.func35, Tryz.ntmps35
  go_wp2_with fail
  with_reducible refine (contains0 t _).mono ?_
  rintro e w1 ⟨rfl, rfl⟩
  have HZ := Lib.hid hz
  rw [hz]
  clear hz
  go_wp2_with fail
  go_ret
  exact ⟨rfl, HG.out⟩
theorem ir_k5 (l s : Int) (B : Nat) (ao : Option Addr) (cap : Nat) (t : ByteArray) (w : World) (h1 : 0 ≤ l) (h2 : l ≤ 1000) (ht : t.size ≠ 0) (h3 : t.size ≤ 256) (hz : t.data.toList.contains 0 = false) (h5 : s = t.size) (h6 : B ≠ 0) :
    Calls Tryz.prog 35 #[.agg #[.int .u8 3, .int .i64 l, .int .i64 s, .slice ao B cap, .string t]] w fun e w' => e = .returned (.bool false) ∧ Gr [] w w' := by
  have HG := Lib.hid ((Gr.refl [] w).alloc (Obj.cells #[.int .u8 3, .int .i64 l, .int .i64 s, .slice ao B cap, .string t] 42))
  have ht2 := bs_emptyI ht
  have h6d : ((B : Int) == 0) = false := by simpa using h6
  subst h5
  go_enter Tryz.func35, Tryz.ntmps35
  go_wp2_with fail
  with_reducible refine (contains0 t _).mono ?_
  rintro e w1 ⟨rfl, rfl⟩
  have HZ := Lib.hid hz
  rw [hz]
  clear hz
  go_wp2_with fail
  go_ret
  exact ⟨rfl, HG.out⟩
theorem ir_k6 (l s : Int) (B : Nat) (ao : Option Addr) (cap : Nat) (t : ByteArray) (w : World) (h1 : 0 ≤ l) (h2 : l ≤ 1000) (ht : t.size ≠ 0) (h3 : t.size ≤ 256) (hz : t.data.toList.contains 0 = false) (h5 : s = t.size) (h6 : B = 0) :
    Calls Tryz.prog 35 #[.agg #[.int .u8 3, .int .i64 l, .int .i64 s, .slice ao B cap, .string t]] w fun e w' => e = .returned (.bool true) ∧ Gr [] w w' := by
  have HG := Lib.hid ((Gr.refl [] w).alloc (Obj.cells #[.int .u8 3, .int .i64 l, .int .i64 s, .slice ao B cap, .string t] 42))
  have ht2 := bs_emptyI ht
  subst h5 h6
  go_enter Tryz.func35, Tryz.ntmps35
  go_wp2_with fail
  with_reducible refine (contains0 t _).mono ?_
  rintro e w1 ⟨rfl, rfl⟩
  have HZ := Lib.hid hz
  rw [hz]
  clear hz
  go_wp2_with fail
  go_ret
  exact ⟨rfl, HG.out⟩
theorem ir_f1 (l s : Int) (B : Nat) (ao : Option Addr) (cap : Nat) (t : ByteArray) (w : World) (h1 : 0 ≤ l) (h2 : l ≤ 1000) (h3 : s < 0) :
    Calls Tryz.prog 35 #[.agg #[.int .u8 1, .int .i64 l, .int .i64 s, .slice ao B cap, .string t]] w fun e w' => e = .returned (.bool false) ∧ Gr [] w w' := by
  have HG := Lib.hid ((Gr.refl [] w).alloc (Obj.cells #[.int .u8 1, .int .i64 l, .int .i64 s, .slice ao B cap, .string t] 42))
  have HI := Lib.hid (Holds.new w #[.int .u8 1, .int .i64 l, .int .i64 s, .slice ao B cap, .string t] 42)
  have h3d : decide (0 ≤ s) = false := decide_eq_false (by omega)
  go_enter Tryz.func35, Tryz.ntmps35
  go_wp2_with fail
  generalize w.alloc (Obj.cells #[.int .u8 1, .int .i64 l, .int .i64 s, .slice ao B cap, .string t] 42) = w1 at *
  have i0 := kp_cell (HI.out.cell 0)
  have i2 := kp_cell (HI.out.cell 2)
  have i3 := kp_cell (HI.out.cell 3)
  have i4 := kp_cell (HI.out.cell 4)
  have hne := kp_ne w1
  refine wp_region_kp (by kernel_rfl) (by kernel_rfl) ?_
  repeat (go_big_quiet_step (fail))
  with_reducible refine wpQuiet_nil ?_
  rintro _ ⟨y, rfl⟩
  have HE := Lib.hid (HG.out.nextB y.h)
  go_wp2_with fail
  go_ret
  exact ⟨rfl, HE.out⟩
theorem ir_f2 (l s : Int) (B : Nat) (ao : Option Addr) (cap : Nat) (t : ByteArray) (w : World) (h1 : 0 ≤ l) (h2 : l ≤ 1000) (h3 : 0 ≤ s) (h4 : 4194304 < s) :
    Calls Tryz.prog 35 #[.agg #[.int .u8 1, .int .i64 l, .int .i64 s, .slice ao B cap, .string t]] w fun e w' => e = .returned (.bool false) ∧ Gr [] w w' := by
  have HG := Lib.hid ((Gr.refl [] w).alloc (Obj.cells #[.int .u8 1, .int .i64 l, .int .i64 s, .slice ao B cap, .string t] 42))
  have HI := Lib.hid (Holds.new w #[.int .u8 1, .int .i64 l, .int .i64 s, .slice ao B cap, .string t] 42)
  have h3d : decide (0 ≤ s) = true := decide_eq_true h3
  have h4d : decide (s ≤ 4194304) = false := decide_eq_false (by omega)
  go_enter Tryz.func35, Tryz.ntmps35
  go_wp2_with fail
  generalize w.alloc (Obj.cells #[.int .u8 1, .int .i64 l, .int .i64 s, .slice ao B cap, .string t] 42) = w1 at *
  have i0 := kp_cell (HI.out.cell 0)
  have i2 := kp_cell (HI.out.cell 2)
  have i3 := kp_cell (HI.out.cell 3)
  have i4 := kp_cell (HI.out.cell 4)
  have hne := kp_ne w1
  refine wp_region_kp (by kernel_rfl) (by kernel_rfl) ?_
  repeat (go_big_quiet_step (fail))
  with_reducible refine wpQuiet_nil ?_
  rintro _ ⟨y, rfl⟩
  have HE := Lib.hid (HG.out.nextB y.h)
  go_wp2_with fail
  go_ret
  exact ⟨rfl, HE.out⟩
theorem ir_f3 (l s : Int) (B : Nat) (ao : Option Addr) (cap : Nat) (t : ByteArray) (w : World) (h1 : 0 ≤ l) (h2 : l ≤ 1000) (h3 : 0 ≤ s) (h4 : s ≤ 4194304) (ht : t.size ≠ 0) :
    Calls Tryz.prog 35 #[.agg #[.int .u8 1, .int .i64 l, .int .i64 s, .slice ao B cap, .string t]] w fun e w' => e = .returned (.bool false) ∧ Gr [] w w' := by
  have HG := Lib.hid ((Gr.refl [] w).alloc (Obj.cells #[.int .u8 1, .int .i64 l, .int .i64 s, .slice ao B cap, .string t] 42))
  have HI := Lib.hid (Holds.new w #[.int .u8 1, .int .i64 l, .int .i64 s, .slice ao B cap, .string t] 42)
  have h3d : decide (0 ≤ s) = true := decide_eq_true h3
  have h4d : decide (s ≤ 4194304) = true := decide_eq_true h4
  have ht2 := bs_emptyI ht
  go_enter Tryz.func35, Tryz.ntmps35
  go_wp2_with fail
  generalize w.alloc (Obj.cells #[.int .u8 1, .int .i64 l, .int .i64 s, .slice ao B cap, .string t] 42) = w1 at *
  have i0 := kp_cell (HI.out.cell 0)
  have i2 := kp_cell (HI.out.cell 2)
  have i3 := kp_cell (HI.out.cell 3)
  have i4 := kp_cell (HI.out.cell 4)
  have hne := kp_ne w1
  refine wp_region_kp (by kernel_rfl) (by kernel_rfl) ?_
  repeat (go_big_quiet_step (fail))
  with_reducible refine wpQuiet_nil ?_
  rintro _ ⟨y, rfl⟩
  have HE := Lib.hid (HG.out.nextB y.h)
  go_wp2_with fail
  go_ret
  exact ⟨rfl, HE.out⟩
theorem ir_f4 (l s : Int) (B : Nat) (ao : Option Addr) (cap : Nat) (b : List (Int × Int)) (w : World) (h1 : 0 ≤ l) (h2 : l ≤ 1000) (h3 : 0 ≤ s) (h4 : s ≤ 4194304) (hv : Rd2 w ao b) (hB : B = b.length) (hr : ¬ Right15 b) :
    Calls Tryz.prog 35 #[.agg #[.int .u8 1, .int .i64 l, .int .i64 s, .slice ao B cap, .string ⟨#[]⟩]] w fun e w' => e = .returned (.bool false) ∧ Gr [] w w' := by
  have HG := Lib.hid ((Gr.refl [] w).alloc (Obj.cells #[.int .u8 1, .int .i64 l, .int .i64 s, .slice ao B cap, .string ⟨#[]⟩] 42))
  have HI := Lib.hid (Holds.new w #[.int .u8 1, .int .i64 l, .int .i64 s, .slice ao B cap, .string ⟨#[]⟩] 42)
  have h3d : decide (0 ≤ s) = true := decide_eq_true h3
  have h4d : decide (s ≤ 4194304) = true := decide_eq_true h4
  have KR := Lib.hid (fun x : Cls (Kp (w.alloc (Obj.cells #[.int .u8 1, .int .i64 l, .int .i64 s, .slice ao B cap, .string ⟨#[]⟩] 42))) => (hv.gr0 ((Gr.refl [] w).alloc _)).below x.h)
  have HBL := Lib.hid hB
  have HRR := Lib.hid hr
  clear hv hB hr
  go_enter Tryz.func35, Tryz.ntmps35
  go_wp2_with fail
  generalize w.alloc (Obj.cells #[.int .u8 1, .int .i64 l, .int .i64 s, .slice ao B cap, .string ⟨#[]⟩] 42) = w1 at *
  have i0 := kp_cell (HI.out.cell 0)
  have i2 := kp_cell (HI.out.cell 2)
  have i3 := kp_cell (HI.out.cell 3)
  have i4 := kp_cell (HI.out.cell 4)
  have hne := kp_ne w1
  have P0 := Lib.hid (fun x : Cls (Kp w1) => calls_blw (eright_no b B ao cap x.w (KR.out x) HBL.out HRR.out))
  refine wp_region_kp (by kernel_rfl) (by kernel_rfl) ?_
  repeat (go_big_quiet_step ((rename_i x; first
    | with_reducible exact kp_call x (P0.out x))))
  with_reducible refine wpQuiet_nil ?_
  rintro _ ⟨y, rfl⟩
  have HE := Lib.hid (HG.out.nextB y.h)
  go_wp2_with fail
  go_ret
  exact ⟨rfl, HE.out⟩
theorem ir_f5 (l s : Int) (B : Nat) (ao : Option Addr) (cap : Nat) (b : List (Int × Int)) (w : World) (h1 : 0 ≤ l) (h2 : l ≤ 1000) (h3 : 0 ≤ s) (h4 : s ≤ 4194304) (hv : Rd2 w ao b) (hB : B = b.length) (hr : Right15 b) (hs : sumZ b ≠ needZ s) :
    Calls Tryz.prog 35 #[.agg #[.int .u8 1, .int .i64 l, .int .i64 s, .slice ao B cap, .string ⟨#[]⟩]] w fun e w' => e = .returned (.bool false) ∧ Gr [] w w' := by
  have HG := Lib.hid ((Gr.refl [] w).alloc (Obj.cells #[.int .u8 1, .int .i64 l, .int .i64 s, .slice ao B cap, .string ⟨#[]⟩] 42))
  have HI := Lib.hid (Holds.new w #[.int .u8 1, .int .i64 l, .int .i64 s, .slice ao B cap, .string ⟨#[]⟩] 42)
  have h3d : decide (0 ≤ s) = true := decide_eq_true h3
  have h4d : decide (s ≤ 4194304) = true := decide_eq_true h4
  have KR := Lib.hid (fun x : Cls (Kp (w.alloc (Obj.cells #[.int .u8 1, .int .i64 l, .int .i64 s, .slice ao B cap, .string ⟨#[]⟩] 42))) => (hv.gr0 ((Gr.refl [] w).alloc _)).below x.h)
  have HBL := Lib.hid hB
  have HRR := Lib.hid hr
  obtain ⟨Z, hZ⟩ : ∃ Z, Z = sumZ b := ⟨_, rfl⟩
  obtain ⟨Y, hY⟩ : ∃ Y, Y = needZ s := ⟨_, rfl⟩
  rw [← hZ, ← hY] at hs
  have HZ := Lib.hid hZ
  have HY := Lib.hid hY
  clear hv hB hr hZ hY
  have hsd : (Z == Y) = false := by simpa using hs
  go_enter Tryz.func35, Tryz.ntmps35
  go_wp2_with fail
  generalize w.alloc (Obj.cells #[.int .u8 1, .int .i64 l, .int .i64 s, .slice ao B cap, .string ⟨#[]⟩] 42) = w1 at *
  have i0 := kp_cell (HI.out.cell 0)
  have i2 := kp_cell (HI.out.cell 2)
  have i3 := kp_cell (HI.out.cell 3)
  have i4 := kp_cell (HI.out.cell 4)
  have hne := kp_ne w1
  have P0 := Lib.hid (fun x : Cls (Kp w1) => calls_blw (eright_yes b B ao cap x.w (KR.out x) HBL.out HRR.out))
  have P1 := Lib.hid (fun x : Cls (Kp w1) => calls_blw (eblocks_any b B Z ao cap x.w (KR.out x) HBL.out HRR.out.small HZ.out))
  have P2 := Lib.hid (fun x : Cls (Kp w1) => calls_blw (need_any s x.w (by omega)))
  rw [← HY.out] at P2
  refine wp_region_kp (by kernel_rfl) (by kernel_rfl) ?_
  repeat (go_big_quiet_step ((rename_i x; first
    | with_reducible exact kp_call x (P0.out x)
    | with_reducible exact kp_call x (P1.out x)
    | with_reducible exact kp_call x (P2.out x))))
  with_reducible refine wpQuiet_nil ?_
  rintro _ ⟨y, rfl⟩
  have HE := Lib.hid (HG.out.nextB y.h)
  go_wp2_with fail
  go_ret
  exact ⟨rfl, HE.out⟩
theorem ir_f6 (l s : Int) (B : Nat) (ao : Option Addr) (cap : Nat) (b : List (Int × Int)) (w : World) (h1 : 0 ≤ l) (h2 : l ≤ 1000) (h3 : 0 ≤ s) (h4 : s ≤ 4194304) (hv : Rd2 w ao b) (hB : B = b.length) (hr : Right15 b) (hs : sumZ b = needZ s) :
    Calls Tryz.prog 35 #[.agg #[.int .u8 1, .int .i64 l, .int .i64 s, .slice ao B cap, .string ⟨#[]⟩]] w fun e w' => e = .returned (.bool true) ∧ Gr [] w w' := by
  have HG := Lib.hid ((Gr.refl [] w).alloc (Obj.cells #[.int .u8 1, .int .i64 l, .int .i64 s, .slice ao B cap, .string ⟨#[]⟩] 42))
  have HI := Lib.hid (Holds.new w #[.int .u8 1, .int .i64 l, .int .i64 s, .slice ao B cap, .string ⟨#[]⟩] 42)
  have h3d : decide (0 ≤ s) = true := decide_eq_true h3
  have h4d : decide (s ≤ 4194304) = true := decide_eq_true h4
  have KR := Lib.hid (fun x : Cls (Kp (w.alloc (Obj.cells #[.int .u8 1, .int .i64 l, .int .i64 s, .slice ao B cap, .string ⟨#[]⟩] 42))) => (hv.gr0 ((Gr.refl [] w).alloc _)).below x.h)
  have HBL := Lib.hid hB
  have HRR := Lib.hid hr
  obtain ⟨Z, hZ⟩ : ∃ Z, Z = sumZ b := ⟨_, rfl⟩
  obtain ⟨Y, hY⟩ : ∃ Y, Y = needZ s := ⟨_, rfl⟩
  rw [← hZ, ← hY] at hs
  have HZ := Lib.hid hZ
  have HY := Lib.hid hY
  clear hv hB hr hZ hY
  subst hs
  go_enter Tryz.func35, Tryz.ntmps35
  go_wp2_with fail
  generalize w.alloc (Obj.cells #[.int .u8 1, .int .i64 l, .int .i64 s, .slice ao B cap, .string ⟨#[]⟩] 42) = w1 at *
  have i0 := kp_cell (HI.out.cell 0)
  have i2 := kp_cell (HI.out.cell 2)
  have i3 := kp_cell (HI.out.cell 3)
  have i4 := kp_cell (HI.out.cell 4)
  have hne := kp_ne w1
  have P0 := Lib.hid (fun x : Cls (Kp w1) => calls_blw (eright_yes b B ao cap x.w (KR.out x) HBL.out HRR.out))
  have P1 := Lib.hid (fun x : Cls (Kp w1) => calls_blw (eblocks_any b B Z ao cap x.w (KR.out x) HBL.out HRR.out.small HZ.out))
  have P2 := Lib.hid (fun x : Cls (Kp w1) => calls_blw (need_any s x.w (by omega)))
  rw [← HY.out] at P2
  refine wp_region_kp (by kernel_rfl) (by kernel_rfl) ?_
  repeat (go_big_quiet_step ((rename_i x; first
    | with_reducible exact kp_call x (P0.out x)
    | with_reducible exact kp_call x (P1.out x)
    | with_reducible exact kp_call x (P2.out x))))
  with_reducible refine wpQuiet_nil ?_
  rintro _ ⟨y, rfl⟩
  have HE := Lib.hid (HG.out.nextB y.h)
  go_wp2_with fail
  go_ret
  exact ⟨rfl, HE.out⟩

theorem iright_dec (k : Nat) (l s : Int) (b : List (Int × Int)) (t : ByteArray) (ao : Option Addr) (cap : Nat) (w : World) (hv : Rd2 w ao b) :
    Calls Tryz.prog 35 #[.agg #[.int .u8 k, .int .i64 l, .int .i64 s, .slice ao b.length cap, .string t]] w fun e w' => (∃ r : Bool, (r = true ↔ Right16 k l s b t) ∧ e = .returned (.bool r)) ∧ Gr [] w w' := by
  have no : ∀ {P : Prop}, ¬ P → (false = true ↔ P) := fun h => ⟨fun e => (by cases e), fun e => absurd e h⟩
  have fin : ∀ (r : Bool), (r = true ↔ Right16 k l s b t) → Calls Tryz.prog 35 #[.agg #[.int .u8 k, .int .i64 l, .int .i64 s, .slice ao b.length cap, .string t]] w (fun e w' => e = .returned (.bool r) ∧ Gr [] w w') → Calls Tryz.prog 35 #[.agg #[.int .u8 k, .int .i64 l, .int .i64 s, .slice ao b.length cap, .string t]] w fun e w' => (∃ r : Bool, (r = true ↔ Right16 k l s b t) ∧ e = .returned (.bool r)) ∧ Gr [] w w' :=
    fun r hr h => h.mono fun e w' q => ⟨⟨r, hr, q.1⟩, q.2⟩
  have ne : ∀ {a : Prop}, (Right16 k l s b t → a) → ¬ a → (false = true ↔ Right16 k l s b t) := fun h na => no (fun r => na (h r))
  unfold Right16 at *
  by_cases h1 : l < 0
  · exact fin _ (no (by omega)) (ir_l0 l s _ ao cap k t w h1)
  by_cases h2 : 1000 < l
  · exact fin _ (no (by omega)) (ir_l1 l s _ ao cap k t w (by omega) h2)
  have h1' : 0 ≤ l := by omega
  have h2' : l ≤ 1000 := by omega
  by_cases k1 : k = 1
  · subst k1
    by_cases h3 : s < 0
    · exact fin _ (no (by omega)) (ir_f1 l s _ ao cap t w h1' h2' h3)
    by_cases h4 : 4194304 < s
    · exact fin _ (no (by omega)) (ir_f2 l s _ ao cap t w h1' h2' (by omega) h4)
    by_cases ht : t.size = 0
    · obtain rfl := bs_nil ht
      by_cases hr : Right15 b
      · by_cases hs : sumZ b = needZ s
        · exact fin true ⟨fun _ => ⟨h1', h2', .inl ⟨rfl, by omega, by omega, rfl, hr, hs⟩⟩, fun _ => rfl⟩ (ir_f6 l s _ ao cap b w h1' h2' (by omega) (by omega) hv rfl hr hs)
        · exact fin _ (no (fun q => by rcases q.2.2 with ⟨_, _, _, _, _, z⟩ | ⟨z, _⟩ | ⟨z, _⟩ <;> first | exact hs z | omega)) (ir_f5 l s _ ao cap b w h1' h2' (by omega) (by omega) hv rfl hr hs)
      · exact fin _ (no (fun q => by rcases q.2.2 with ⟨_, _, _, _, z, _⟩ | ⟨z, _⟩ | ⟨z, _⟩ <;> first | exact hr z | omega)) (ir_f4 l s _ ao cap b w h1' h2' (by omega) (by omega) hv rfl hr)
    · exact fin _ (no (fun q => by rcases q.2.2 with ⟨_, _, _, z, _, _⟩ | ⟨z, _⟩ | ⟨z, _⟩ <;> first | exact ht z | omega)) (ir_f3 l s _ ao cap t w h1' h2' (by omega) (by omega) ht)
  by_cases k2 : k = 2
  · subst k2
    by_cases h3 : s = 0
    · by_cases h4 : b.length = 0
      · by_cases ht : t.size = 0
        · obtain rfl := bs_nil ht
          exact fin true ⟨fun _ => ⟨h1', h2', .inr (.inl ⟨rfl, h3, h4, rfl⟩)⟩, fun _ => rfl⟩ (ir_d4 l s _ ao cap w h1' h2' h3 h4)
        · exact fin _ (no (by omega)) (ir_d3 l s _ ao cap t w h1' h2' h3 h4 ht)
      · exact fin _ (no (by omega)) (ir_d2 l s _ ao cap t w h1' h2' h3 h4)
    · exact fin _ (no (by omega)) (ir_d1 l s _ ao cap t w h1' h2' h3)
  by_cases k3 : k = 3
  · subst k3
    by_cases ht : t.size = 0
    · obtain rfl := bs_nil ht
      exact fin _ (no (fun q => by rcases q.2.2 with ⟨z, _⟩ | ⟨z, _⟩ | ⟨_, z, _⟩ <;> first | exact z rfl | omega)) (ir_k1 l s _ ao cap w h1' h2')
    by_cases h3 : 256 < t.size
    · exact fin _ (no (by omega)) (ir_k2 l s _ ao cap t w h1' h2' ht h3)
    cases hz : t.data.toList.contains 0 with
    | true => exact fin _ (no (fun q => by rcases q.2.2 with ⟨z, _⟩ | ⟨z, _⟩ | ⟨_, _, _, z, _⟩ <;> first | (unfold zfree at z; rw [hz] at z; cases z) | omega)) (ir_k3 l s _ ao cap t w h1' h2' ht (by omega) hz)
    | false =>
      by_cases h5 : s = t.size
      · by_cases h6 : b.length = 0
        · exact fin true ⟨fun _ => ⟨h1', h2', .inr (.inr ⟨rfl, ht, by omega, hz, h5, h6⟩)⟩, fun _ => rfl⟩ (ir_k6 l s _ ao cap t w h1' h2' ht (by omega) hz h5 h6)
        · exact fin _ (no (by omega)) (ir_k5 l s _ ao cap t w h1' h2' ht (by omega) hz h5 h6)
      · exact fin _ (no (by omega)) (ir_k4 l s _ ao cap t w h1' h2' ht (by omega) hz h5)
  exact fin _ (no (by omega)) (ir_k l s _ ao cap k t w h1' h2' (by omega) (by omega) (by omega))
theorem iright_yes (k : Nat) (l s : Int) (b : List (Int × Int)) (t : ByteArray) (B : Nat) (ao : Option Addr) (cap : Nat) (w : World) (hv : Rd2 w ao b) (hB : B = b.length) (h : Right16 k l s b t) :
    Calls Tryz.prog 35 #[.agg #[.int .u8 k, .int .i64 l, .int .i64 s, .slice ao B cap, .string t]] w fun e w' => e = .returned (.bool true) ∧ Gr [] w w' := by
  subst hB
  refine (iright_dec k l s b t ao cap w hv).mono ?_
  rintro e w' ⟨⟨r, hr, rfl⟩, g⟩
  rw [hr.2 h]
  exact ⟨rfl, g⟩
end Go.Proofs.YtgleopahldpajaaGreat

/-
  Layer 19 (tree): the lowest number that no inode has; slices.Clone of runs.
-/
namespace Go.Proofs.YtgleopahldpajaaGreat
open Go.RowKit
set_option linter.unusedVariables false
set_option maxHeartbeats 1000000 in
theorem xclone_any (ao : Option Addr) (l : List (Int × Int)) (cap : Nat) (w : World) (h : Rd2 w ao l) (hl : l.length ≤ 70000) (hc : l.length ≤ cap) (hn : ao = none → cap = 0) :
    Calls Tryz.prog 65 #[.slice ao l.length cap] w fun e w' => ∃ v, e = .returned v ∧ w'.ownsRow w.heap.size 158 2 v l.length (cells2 l) ∧ Gr [] w w' := by
  obtain ⟨i0, hi, hz0, hz1, hz2⟩ := info_parts infoExtH
  have hcells := cells2_len l
  have hone := cells2_one l
  cases ao with
  | none =>
    obtain rfl := hn rfl
    have h0 : l = [] := List.length_eq_zero_iff.1 (by omega)
    subst h0
    have he := fun (W : World) => Lib.run_eql_slice_nil (P := Tryz.prog) W 40 158 none 0 0 0 0 Tryz.underlying40
    go_enter Tryz.func65, Tryz.ntmps65
    go_wp2_with fail
    go_ret
    exact ⟨_, rfl, World.ownsRow_nil _ _ _ _, Gr.refl _ _⟩
  | some a =>
    have hr := (h.gr0 ((Gr.refl _ w).alloc (Obj.cells #[] 158))).cells rfl
    have HN := Lib.hid (And.intro hr (And.intro hcells hone))
    clear hr hcells hone h
    have he := fun (W : World) (n c : Nat) => Lib.run_eql_slice_nil (P := Tryz.prog) W 40 158 (some a) n c 0 0 Tryz.underlying40
    obtain ⟨n, hn2⟩ : ∃ n, n = l.length := ⟨_, rfl⟩
    rw [← hn2] at HN hl ⊢
    clear hn2
    have hown := World.ownsRow_made (base := w.heap.size) (e := 158) (size := 2) w #[] 0 (Nat.le_refl _) (Nat.zero_le _) rfl
    have HR := Lib.hid hown
    clear hown
    go_enter Tryz.func65, Tryz.ntmps65
    go_wp2_with (at_builtin; refine wpList_append_own _ rfl _ _ 40 rfl w.heap.size 158 i0 _ 2 16 Tryz.underlying40 hi hz0 hz1 hz2 rfl (by decide) _ _ _ rfl HR.out a n cap (cells2 l) rfl ?c1 ?c2 ?c3 ?c4 ?c5 ?c6 ?_)
    case c1 => exact HN.out.2.1
    case c2 => exact HN.out.1
    case c3 => exact HN.out.2.2
    case c4 => unfold maxLen; omega
    case c5 => omega
    case c6 => simp
    intro v' w1 hown' hgrow _
    have HF := Lib.hid (And.intro hown' hgrow)
    clear hown' hgrow
    go_wp2_with fail
    go_ret
    exact ⟨_, rfl, HF.out.1, ((Gr.refl [] w).alloc _).grown HF.out.2 (fun k hk => .inr (by simp [Value.ownBlock] at hk; omega))⟩


theorem xclone_sl (ao : Option Addr) (n cap : Nat) (l : List (Int × Int)) (w : World) (h : Sl2 w (.slice ao n cap) l) (hl : l.length ≤ 70000) :
    Calls Tryz.prog 65 #[.slice ao n cap] w fun e w' => ∃ ao' cap', e = .returned (.slice ao' n cap') ∧ Sl2 w' (.slice ao' n cap') l ∧ (∀ b, (Value.slice ao' n cap').ownBlock = some b → w.heap.size ≤ b) ∧ Gr [] w w' := by
  obtain ⟨h1, h2, h3, h4, h5⟩ := sl2_parts h
  subst h1
  refine (xclone_any ao l cap w h2 hl h3 h5).mono ?_
  rintro e w' ⟨v, rfl, ho, g⟩
  obtain ⟨ao', cap', rfl⟩ := own_formX ho
  exact ⟨ao', cap', rfl, own_sl2 ho, fun b hb => (World.ownsRow.lt ho b hb).1, g⟩
/-- The lowest number that no inode has. -/
def IsLow (T : Int → Option NdZ) (k : Nat) : Prop := 1 ≤ k ∧ k ≤ 1024 ∧ T (k : Int) = none ∧ ∀ m : Nat, 1 ≤ m → m < k → (T (m : Int)).isSome = true
theorem IsLow.uniq {T : Int → Option NdZ} {j k : Nat} (h : IsLow T j) (h' : IsLow T k) : j = k := by
  rcases Nat.lt_trichotomy j k with c | c | c
  · have := h'.2.2.2 j h.1 c
    rw [h.2.2.1] at this; cases this
  · exact c
  · have := h.2.2.2 k h'.1 c
    rw [h'.2.2.1] at this; cases this
theorem full_len {T : Int → Option NdZ} (h : ∀ m : Nat, 1 ≤ m → m < 1025 → (T (m : Int)).isSome = true) : 1024 ≤ lenZ T := by
  have hnd : ((List.range 1024).map fun i : Nat => ((i + 1 : Nat) : Int)).Nodup := by
    rw [List.Nodup, List.pairwise_map]
    exact List.nodup_range.imp fun {a b} hab e => hab (by omega)
  have := nodup_sub (V := (List.range 1024).map fun i : Nat => ((i + 1 : Nat) : Int)) (N := numsZ T) hnd fun s hs => by
    obtain ⟨i, hi, rfl⟩ := List.mem_map.1 hs
    rw [List.mem_range] at hi
    unfold numsZ
    rw [List.mem_filter, List.mem_map]
    exact ⟨⟨i + 1, List.mem_range.2 (by omega), rfl⟩, h (i + 1) (by omega) (by omega)⟩
  rw [List.length_map, List.length_range] at this
  exact this
section
variable {w w' w2 : World} {A : TrA} {Z : TrZ} {K : Nat} {g : Int → NdV} {n : Int} {x : NdZ} {v : NdV}
set_option maxRecDepth 20000 in
set_option maxHeartbeats 2000000 in
theorem unused_any (h : TrG w A Z K g) (hl : lenZ Z.T < 1024) : Calls Tryz.prog 64 #[.pointer (some ⟨A.tb, 0, none⟩)] w fun e w' => ∃ k : Nat, e = .returned (.int .i64 (k : Int)) ∧ IsLow Z.T k ∧ Gr [] w w' := by
  have HH := Lib.hid h
  have HL := Lib.hid hl
  clear h hl
  go_enter Tryz.func64, Tryz.ntmps64
  go_wp2_with fail
  go_loopw [3] (fun i wr => ∃ j : Nat, 1 ≤ j ∧ j ≤ 1024 ∧ i = .int .i64 (j : Int) ∧ Hid (∀ m : Nat, 1 ≤ m → m < j → (Z.T (m : Int)).isSome = true) ∧ Gr [] w wr) (fun i _ => 1025 - (intOf i).toNat)
  case atStart => exact ⟨1, by omega, by omega, rfl, Lib.hid (fun m h1 h2 => by omega), Gr.refl _ _⟩
  case round =>
    obtain ⟨j, hj1, hj2, rfl, HE, G⟩ := hrel
    have HG := Lib.hid G
    have hm := (HH.out.gr0 G)
    have c0 := hm.hd.cell 0
    have HM := Lib.hid hm.nodes
    have HW := Lib.hid (wfZ (z := (j : Int)) (by omega) (by omega))
    clear hm G
    cases q : Z.T (j : Int) with
    | none =>
      have HV := Lib.hid (show Value.tuple #[ndE.val ((gT g Z.T (j : Int)).getD ndE.zero), .bool (gT g Z.T (j : Int)).isSome] = .tuple #[.agg #[.int .u8 0, .int .i64 0, .int .i64 0, .slice none 0 0, .string ⟨#[]⟩, .pointer none, .int .i64 0, .int .i64 0], .bool false] by rw [gT_none q]; rfl)
      have HF := Lib.hid (show IsLow Z.T j from ⟨hj1, hj2, q, HE.out⟩)
      clear q HE
      go_wp2_with (at_lookup; refine wp_lookZ_oks rfl _ _ rfl rfl HM.out undInt19 undNodes (j : Int) rfl HW.out _ HV.out ?_)
      go_ret
      exact ⟨j, rfl, HF.out, HG.out.alloc _⟩
    | some y =>
      obtain ⟨v, hv⟩ : ∃ v, v = g (j : Int) := ⟨_, rfl⟩
      have HV := Lib.hid (show Value.tuple #[ndE.val ((gT g Z.T (j : Int)).getD ndE.zero), .bool (gT g Z.T (j : Int)).isSome] = .tuple #[.agg #[.int .u8 v.k, .int .i64 v.l, .int .i64 v.s, .slice v.ao v.n v.cap, .string v.t, .pointer v.dp, .int .i64 v.up, .int .i64 v.op], .bool true] by rw [gT_some q, hv]; rfl)
      have HF := Lib.hid (show ∀ m : Nat, 1 ≤ m → m < j + 1 → (Z.T (m : Int)).isSome = true from fun m h1 h2 => by
        by_cases e : m = j
        · rw [e, q]; rfl
        · exact HE.out m h1 (by omega))
      have hj3 : j + 1 ≤ 1024 := by
        by_cases e : j = 1024
        · have := full_len (T := Z.T) fun m h1 h2 => HF.out m h1 (by omega)
          have := HL.out
          omega
        · omega
      clear q HE hv
      go_wp2_with (at_lookup; refine wp_lookZ_oks rfl _ _ rfl rfl HM.out undInt19 undNodes (j : Int) rfl HW.out _ HV.out ?_)
      go_roundw
      case rel => exact ⟨j + 1, by omega, hj3, by go_num, HF, HG.out.alloc _⟩
      case measure => simp [intOf]; omega
end
end Go.Proofs.YtgleopahldpajaaGreat

/-
  Layer 19 (tree): Make.
-/
namespace Go.Proofs.YtgleopahldpajaaGreat
open Go.RowKit
set_option linter.unusedVariables false
/-- An inode that is made. -/
def newN (k : Nat) (sz : Int) (b : List (Int × Int)) (t : ByteArray) (n : Int) : NdZ := ⟨k, if k = 2 then 2 else 1, sz, b, t, n, 0⟩
def lkT (T : Int → Option NdZ) (n : Int) : Nat := match T n with | some d => d.l | none => 0
def moreT (T : Int → Option NdZ) (n : Int) : Int → Option NdZ := match T n with | some d => updN T n (some (d.lk (d.l + 1))) | none => T
/-- The tree with what is made. -/
def TrZ.make (Z : TrZ) (n : Int) (s : ByteArray) (of : Nat) (y : NdZ) : TrZ :=
  ⟨updN (if y.k = 2 then moreT Z.T n else Z.T) of (some y), Z.nm ++ [(n, s, of)], updS Z.sp n s, setN (if y.k = 2 then setN Z.sn n else Z.sn) of⟩
theorem vacE_ok {T : Int → Option NdZ} {nm : List NmZ} {n : Int} {s : ByteArray} (c : vacE T nm n s = 0) : ∃ x, T n = some x ∧ x.k = 2 ∧ x.l ≠ 0 ∧ nameP s.data.toList = true ∧ lkN nm n s = none := by
  unfold vacE at c
  by_cases h : openE T n = 0
  · rw [if_pos h] at c
    obtain ⟨x, h1, h2, h3⟩ := openE_ok h
    by_cases q : nameP s.data.toList = true
    · rw [if_pos q] at c
      cases r : lkN nm n s with
      | none => exact ⟨x, h1, h2, h3, q, rfl⟩
      | some v => rw [r] at c; cases c
    · rw [if_neg q] at c; cases c
  · rw [if_neg h] at c; exact absurd c h
section
variable {w w' w2 : World} {A : TrA} {Z : TrZ} {K : Nat} {g : Int → NdV} {n : Int} {x : NdZ} {v : NdV}
set_option maxRecDepth 20000 in
set_option maxHeartbeats 2000000 in
theorem make_vac (h : TrG w A Z K g) (n : Int) (hn : WfZ n) (s : ByteArray) (hs : s.size ≤ maxLen) (k : Nat) (l0 sz : Int) (ao : Option Addr) (m cap : Nat) (t : ByteArray) (e0 : Int) (he : vacE Z.T Z.nm n s = e0) (h0 : e0 ≠ 0) : Calls Tryz.prog 16 #[.pointer (some ⟨A.tb, 0, none⟩), .int .i64 n, .string s, .agg #[.int .u8 (k : Int), .int .i64 l0, .int .i64 sz, .slice ao m cap, .string t]] w fun e w' => e = .returned (.tuple #[.int .i64 0, .int .i64 e0]) ∧ Gr [] w w' := by
  have g1 : Gr [] w (w.alloc (Obj.cells #[.int .u8 (k : Int), .int .i64 l0, .int .i64 sz, .slice ao m cap, .string t] 42)) := (Gr.refl [] w).alloc _
  have hv := vacant_any (h.gr0 g1) n hn s hs
  rw [he, pickV_no h0] at hv
  have HV := Lib.hid hv
  have HG := Lib.hid g1
  have e1 : (e0 == 0) = false := by simp [h0]
  have e2 : (e0 != 0) = true := by simp [h0]
  clear h hn hs he g1 hv
  go_enter Tryz.func16, Tryz.ntmps16
  go_wp2_with fail
  with_reducible refine HV.out.mono ?_
  rintro e w1 ⟨rfl, g2⟩
  have HG2 := Lib.hid ((HG.out.next0 g2).alloc (Obj.cells #[.int .u8 0, .int .i64 0, .int .i64 0, .slice none 0 0, .string ⟨#[]⟩, .pointer none, .int .i64 0, .int .i64 0] 125))
  unfold ndVal ndZero
  clear g2 HV HG
  go_wp2_with fail
  go_ret2
  exact ⟨rfl, HG2.out⟩
end
end Go.Proofs.YtgleopahldpajaaGreat
