/-
  Layer 16: what each law first looks at: a list of one run, a directory.
-/
import Derived.Test.YtpkhfdcokcchdabInA
namespace Go.Proofs.Ytpkhfdcokcchdab
open Go.RowKit

theorem xtext_nil (w : World) : Calls Try.prog 38 #[.slice none 0 0] w fun e w' => e = .returned (.string ⟨#[]⟩) ∧ Gr [] w w' := by
  go_enter Try.func38, Try.ntmps38
  go_wp2_with fail
  with_reducible refine (xright_nil _).mono ?_
  rintro e w1 ⟨rfl, g1⟩
  have HG := Lib.hid g1
  have HF := Lib.hid (fresh_string w1)
  clear g1
  go_wp2_with fail
  go_loopw [11] (fun i wr => i = .int .i64 0 ∧ wr = w1.alloc (.cells #[.pointer none, .slice none 0 0] 95)) (fun _ _ => 0)
  case atStart => exact ⟨rfl, rfl⟩
  case round =>
    obtain ⟨rfl, rfl⟩ := hrel
    go_wp2_with fail
    with_reducible refine HF.out.mono ?_
    rintro e w2 ⟨rfl, g2⟩
    have HG2 := Lib.hid (HG.out.nextB g2)
    clear g2
    go_wp2_with fail
    go_ret
    exact ⟨rfl, HG2.out⟩
theorem xright_one (b : Nat) (w : World) (c0 : w.cell? ⟨b, 0, none⟩ = some (.int .i64 3)) (c1 : w.cell? ⟨b, 1, none⟩ = some (.int .i64 2)) :
    Calls Try.prog 33 #[.slice (some ⟨b, 0, none⟩) 1 1] w fun e w' => e = .returned (.bool true) ∧ Gr [] w w' := by
  have HC := Lib.hid (And.intro c0 c1)
  have hb := World.block_lt_of_cell? w _ c0
  clear c0 c1
  go_enter Try.func33, Try.ntmps33
  go_wp2_with fail
  go_loopw [3, 11] (fun s i wr => Gr [] w wr ∧ ((i = .int .i64 0 ∧ s = .int .i64 0) ∨ (i = .int .i64 1 ∧ s = .int .i64 2))) (fun _ i _ => 1 - (intOf i).toNat)
  case atStart => exact ⟨Gr.refl _ _, .inl ⟨rfl, rfl⟩⟩
  case round =>
    obtain ⟨G, hr⟩ := hrel
    have c0 : wr.cell? ⟨b, 0, none⟩ = some (.int .i64 3) := (G.cell0 hb).trans HC.out.1
    have c1 : wr.cell? ⟨b, 1, none⟩ = some (.int .i64 2) := (G.cell0 hb).trans HC.out.2
    have HX := Lib.hid (Holds.new wr #[.int .i64 3, .int .i64 2] 72)
    have HG := Lib.hid G
    clear G
    rcases hr with ⟨rfl, rfl⟩ | ⟨rfl, rfl⟩
    · have h00 : decide ((0 : Int) < 0) = false := rfl
      go_wp2_with fail
      go_quiet (fail)
      have x0 := HX.out.cell 0
      have x1 := HX.out.cell 1
      go_wp2_with fail
      go_roundw
      case rel => exact ⟨((HG.out.alloc _).drewN _), .inr ⟨rfl, rfl⟩⟩
      case measure => simp [intOf]
    · go_wp2_with fail
      go_ret
      exact ⟨rfl, HG.out⟩
theorem xblocks_one (b : Nat) (w : World) (c0 : w.cell? ⟨b, 0, none⟩ = some (.int .i64 3)) (c1 : w.cell? ⟨b, 1, none⟩ = some (.int .i64 2)) :
    Calls Try.prog 34 #[.slice (some ⟨b, 0, none⟩) 1 1] w fun e w' => e = .returned (.int .i64 2) ∧ Gr [] w w' := by
  have HC := Lib.hid (And.intro c0 c1)
  have hb := World.block_lt_of_cell? w _ c0
  clear c0 c1
  go_enter Try.func34, Try.ntmps34
  go_wp2_with fail
  go_loopw [3, 8] (fun s i wr => Gr [] w wr ∧ ((i = .int .i64 0 ∧ s = .int .i64 0) ∨ (i = .int .i64 1 ∧ s = .int .i64 2))) (fun _ i _ => 1 - (intOf i).toNat)
  case atStart => exact ⟨Gr.refl _ _, .inl ⟨rfl, rfl⟩⟩
  case round =>
    obtain ⟨G, hr⟩ := hrel
    have c0 : wr.cell? ⟨b, 0, none⟩ = some (.int .i64 3) := (G.cell0 hb).trans HC.out.1
    have c1 : wr.cell? ⟨b, 1, none⟩ = some (.int .i64 2) := (G.cell0 hb).trans HC.out.2
    have HG := Lib.hid G
    clear G
    rcases hr with ⟨rfl, rfl⟩ | ⟨rfl, rfl⟩
    · go_wp2_with fail
      go_roundw
      case rel => exact ⟨(HG.out.alloc _), .inr ⟨rfl, rfl⟩⟩
      case measure => simp [intOf]
    · go_wp2_with fail
      go_ret
      exact ⟨rfl, HG.out⟩
theorem iright_dir (w : World) : Calls Try.prog 14 #[.agg #[.int .u8 2, .int .i64 2, .int .i64 0, .slice none 0 0, .string ⟨#[]⟩]] w fun e w' => e = .returned (.bool true) ∧ Gr [] w w' := by
  have HG := Lib.hid ((Gr.refl [] w).alloc (Obj.cells #[.int .u8 2, .int .i64 2, .int .i64 0, .slice none 0 0, .string ⟨#[]⟩] 31))
  go_enter Try.func14, Try.ntmps14
  go_wp2_with fail
  go_ret
  exact ⟨rfl, HG.out⟩
theorem iright_file (b : Nat) (w : World) (c0 : w.cell? ⟨b, 0, none⟩ = some (.int .i64 3)) (c1 : w.cell? ⟨b, 1, none⟩ = some (.int .i64 2)) :
    Calls Try.prog 14 #[.agg #[.int .u8 1, .int .i64 0, .int .i64 65, .slice (some ⟨b, 0, none⟩) 1 1, .string ⟨#[]⟩]] w fun e w' => e = .returned (.bool true) ∧ Gr [] w w' := by
  have hb := World.block_lt_of_cell? w _ c0
  have g := (Gr.refl [] w).alloc (Obj.cells #[.int .u8 1, .int .i64 0, .int .i64 65, .slice (some ⟨b, 0, none⟩) 1 1, .string ⟨#[]⟩] 31)
  have HG := Lib.hid g
  have k0 := kp_cell ((g.cell0 hb).trans c0)
  have k1 := kp_cell ((g.cell0 hb).trans c1)
  have HI := Lib.hid (Holds.new w #[.int .u8 1, .int .i64 0, .int .i64 65, .slice (some ⟨b, 0, none⟩) 1 1, .string ⟨#[]⟩] 31)
  clear g c0 c1
  go_enter Try.func14, Try.ntmps14
  go_wp2_with fail
  generalize w.alloc (Obj.cells #[.int .u8 1, .int .i64 0, .int .i64 65, .slice (some ⟨b, 0, none⟩) 1 1, .string ⟨#[]⟩] 31) = w1 at *
  have i0 := kp_cell (HI.out.cell 0)
  have i2 := kp_cell (HI.out.cell 2)
  have i3 := kp_cell (HI.out.cell 3)
  have i4 := kp_cell (HI.out.cell 4)
  have hne := kp_ne w1
  have P1 := Lib.hid (fun x : Cls (Kp w1) => calls_below (xright_one b x.w (k0 x) (k1 x)))
  have P2 := Lib.hid (fun x : Cls (Kp w1) => calls_below (xblocks_one b x.w (k0 x) (k1 x)))
  have P3 := Lib.hid (fun x : Cls (Kp w1) => calls_below (need_65 x.w))
  clear k0 k1
  refine wp_region_kp (by kernel_rfl) (by kernel_rfl) ?_
  repeat (go_big_quiet_step ((rename_i x; first
    | with_reducible exact kp_call x (P1.out x)
    | with_reducible exact kp_call x (P2.out x)
    | with_reducible exact kp_call x (P3.out x))))
  with_reducible refine wpQuiet_nil ?_
  rintro _ ⟨y, rfl⟩
  have HE := Lib.hid (HG.out.nextB y.h)
  go_wp2_with fail
  go_ret
  exact ⟨rfl, HE.out⟩

end Go.Proofs.Ytpkhfdcokcchdab
