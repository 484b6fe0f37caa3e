/-
  Layer 16: a directory's bytes, told and parsed; Equal.
-/
import Derived.Test.YtpkhfdcokcchdabInB
import Derived.Deep.RegionHeld3
import Derived.RegionTactic
namespace Go.Proofs.Ytpkhfdcokcchdab
open Go.RowKit

theorem put_lit (n : Nat) (k : Int) (L : ByteArray) (w : World) (hn : n < 18446744073709551616) (hL : (⟨(putL n (clamp8 k)).toArray⟩ : ByteArray) = L) :
    Calls Try.prog 37 #[.int .u64 n, .int .i64 k] w fun e w' => e = .returned (.string L) ∧ Below w.heap.size w w' := by
  subst hL
  exact put_any n k w hn
theorem putA (w : World) : Calls Try.prog 37 #[.int .u64 1, .int .i64 2] w fun e w' => e = .returned (.string ⟨#[1, 0]⟩) ∧ Below w.heap.size w w' := put_lit 1 2 _ w (by omega) rfl
theorem putB (w : World) : Calls Try.prog 37 #[.int .u64 2, .int .i64 1] w fun e w' => e = .returned (.string ⟨#[2]⟩) ∧ Below w.heap.size w w' := put_lit 2 1 _ w (by omega) rfl
theorem putC (w : World) : Calls Try.prog 37 #[.int .u64 2, .int .i64 2] w fun e w' => e = .returned (.string ⟨#[2, 0]⟩) ∧ Below w.heap.size w w' := put_lit 2 2 _ w (by omega) rfl
theorem putD (w : World) : Calls Try.prog 37 #[.int .u64 0, .int .i64 4] w fun e w' => e = .returned (.string ⟨#[0, 0, 0, 0]⟩) ∧ Below w.heap.size w w' := put_lit 0 4 _ w (by omega) rfl
def D9 : ByteArray := ⟨#[1, 0, 2, 2, 0, 0, 0, 0, 0]⟩
set_option maxRecDepth 20000 in
theorem itext_dir (w : World) : Calls Try.prog 16 #[.agg #[.int .u8 2, .int .i64 2, .int .i64 0, .slice none 0 0, .string ⟨#[]⟩], .int .i64 1] w fun e w' => e = .returned (.string D9) ∧ Gr [] w w' := by
  have HG := Lib.hid ((Gr.refl [] w).alloc (Obj.cells #[.int .u8 2, .int .i64 2, .int .i64 0, .slice none 0 0, .string ⟨#[]⟩] 31))
  have HI := Lib.hid (Holds.new w #[.int .u8 2, .int .i64 2, .int .i64 0, .slice none 0 0, .string ⟨#[]⟩] 31)
  go_enter Try.func16, Try.ntmps16
  go_wp2_with fail
  with_reducible refine (iright_dir _).mono ?_
  rintro e w1 ⟨rfl, g1⟩
  have HG1 := Lib.hid (HG.out.next0 g1)
  have HI1 := Lib.hid (HI.out.gr0 g1)
  clear g1 HG HI
  obtain ⟨b, hb⟩ : ∃ b, w.heap.size = b := ⟨_, rfl⟩
  rw [hb] at HI1 ⊢
  clear hb
  have i0 := kp_cell (HI1.out.cell 0)
  have i1 := kp_cell (HI1.out.cell 1)
  have i2 := kp_cell (HI1.out.cell 2)
  have hne := kp_ne w1
  have u1 : IntKind.u64.wrap 1 = 1 := rfl
  have u2 : IntKind.u64.wrap 2 = 2 := rfl
  have u0 : IntKind.u64.wrap 0 = 0 := rfl
  have P1 := Lib.hid (fun x : Cls (Kp w1) => putA x.w)
  have P2 := Lib.hid (fun x : Cls (Kp w1) => putB x.w)
  have P3 := Lib.hid (fun x : Cls (Kp w1) => putC x.w)
  have P4 := Lib.hid (fun x : Cls (Kp w1) => putD x.w)
  go_wp2_with fail
  refine wp_region_kp (by kernel_rfl) (by kernel_rfl) ?_
  repeat (go_big_quiet_step ((rename_i x; first
    | with_reducible exact kp_call x (P1.out x)
    | with_reducible exact kp_call x (P2.out x)
    | with_reducible exact kp_call x (P3.out x)
    | with_reducible exact kp_call x (P4.out x))))
  with_reducible refine wpQuiet_nil ?_
  rintro _ ⟨y, rfl⟩
  have HG2 := Lib.hid (HG1.out.nextB y.h)
  have HI2 := Lib.hid (HI1.out.gr0 (.ofBelow y.h))
  clear i0 i1 i2 hne u1 u2 u0 P1 P2 P3 P4 HG1 HI1
  generalize y.w = w2 at *
  clear y
  have i3 := kp_cell (HI2.out.cell 3)
  have i4 := kp_cell (HI2.out.cell 4)
  have hne := kp_ne w2
  have P5 := Lib.hid (fun x : Cls (Kp w2) => calls_below (xtext_nil x.w))
  go_wp2_with fail
  refine wp_region_kp (by kernel_rfl) (by kernel_rfl) ?_
  repeat (go_big_quiet_step ((rename_i x; with_reducible exact kp_call x (P5.out x))))
  with_reducible refine wpQuiet_nil ?_
  rintro _ ⟨y, rfl⟩
  have HG3 := Lib.hid (HG2.out.nextB y.h)
  go_wp2_with fail
  go_ret
  exact ⟨rfl, HG3.out⟩
theorem seq_nil (w : World) : Calls Try.prog 43 #[.slice none 0 0, .slice none 0 0] w fun e w' => e = .returned (.bool true) ∧ Gr [] w w' := by
  have HG := Lib.hid (Gr.refl [] w)
  go_enter Try.func43, Try.ntmps43
  go_wp2_with fail
  go_loopw [13] (fun i wr => i = .int .i64 0 ∧ Gr [] w wr) (fun _ _ => 0)
  case atStart => exact ⟨rfl, HG.out⟩
  case round =>
    obtain ⟨rfl, G⟩ := hrel
    have HR := Lib.hid G
    clear G
    go_wp2_with fail
    go_ret
    exact ⟨rfl, HR.out⟩
theorem iequal_dir (w : World) : Calls Try.prog 22 #[.agg #[.int .u8 2, .int .i64 2, .int .i64 0, .slice none 0 0, .string ⟨#[]⟩], .agg #[.int .u8 2, .int .i64 2, .int .i64 0, .slice none 0 0, .string ⟨#[]⟩]] w fun e w' => e = .returned (.bool true) ∧ Gr [] w w' := by
  have HG := Lib.hid (((Gr.refl [] w).alloc (Obj.cells #[.int .u8 2, .int .i64 2, .int .i64 0, .slice none 0 0, .string ⟨#[]⟩] 31)).alloc (Obj.cells #[.int .u8 2, .int .i64 2, .int .i64 0, .slice none 0 0, .string ⟨#[]⟩] 31))
  have HA := Lib.hid ((Holds.new w #[.int .u8 2, .int .i64 2, .int .i64 0, .slice none 0 0, .string ⟨#[]⟩] 31).alloc (Obj.cells #[.int .u8 2, .int .i64 2, .int .i64 0, .slice none 0 0, .string ⟨#[]⟩] 31))
  have HB := Lib.hid (Holds.new (w.alloc (Obj.cells #[.int .u8 2, .int .i64 2, .int .i64 0, .slice none 0 0, .string ⟨#[]⟩] 31)) #[.int .u8 2, .int .i64 2, .int .i64 0, .slice none 0 0, .string ⟨#[]⟩] 31)
  rw [World.size_alloc] at HB
  go_enter Try.func22, Try.ntmps22
  go_wp2_with fail
  with_reducible refine (seq_nil _).mono ?_
  rintro e w1 ⟨rfl, g1⟩
  have HG1 := Lib.hid (HG.out.next0 g1)
  have a4 := (HA.out.gr0 g1).cell 4
  have b4 := (HB.out.gr0 g1).cell 4
  clear g1
  go_wp2_with fail
  go_ret
  exact ⟨rfl, HG1.out⟩

end Go.Proofs.Ytpkhfdcokcchdab
