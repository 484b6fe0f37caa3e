/-
  Layer 12: RecFollows, walked.
-/
import Derived.Test.YtpkhfdcokcchdabDoorRcF
namespace Go.Proofs.YtpkhfdcokcchdabDoor
open Go.RowKit

theorem calls_below {P : Program} {f : FuncId} {args : Array Value} {w : World} {v : Value} (h : Calls P f args w fun e w' => e = .returned v ∧ Gr [] w w') : Calls P f args w fun e w' => e = .returned v ∧ Below w.heap.size w w' :=
  h.mono fun _ _ ⟨a, b⟩ => ⟨a, b.below0⟩

set_option maxHeartbeats 4000000 in
set_option maxRecDepth 20000 in
theorem recFollows_any (a0 a1 a2 b0 b1 b2 : Nat) (w : World) (h2 : a2 < 4294967296) (k2 : b2 < 4294967296) :
    Calls Tryd.prog 4 #[.agg #[.int .u32 a0, .int .u32 a1, .int .u32 a2], .agg #[.int .u32 b0, .int .u32 b1, .int .u32 b2]] w fun e w' => e = .returned (.bool true) ∧ Below w.heap.size w w' := by
  obtain ⟨c2, hc2⟩ : ∃ c2 : Nat, c2 = (b2 + 1) % 4294967296 := ⟨_, rfl⟩
  have hc : ((b2 : Int) + 1) % 4294967296 = (c2 : Int) := by omega
  have hcl : c2 < 4294967296 := by omega
  clear hc2
  go_enter Tryd.func4, Tryd.ntmps4
  go_wp2_with fail
  have HA := Lib.hid (((Holds.new w #[.int .u32 a0, .int .u32 a1, .int .u32 a2] 23).alloc (Obj.cells #[.int .u32 b0, .int .u32 b1, .int .u32 b2] 23)).alloc (Obj.cells #[.int .u32 b0, .int .u32 a1, .int .u32 c2] 23))
  have HB := Lib.hid ((Holds.new (w.alloc (Obj.cells #[.int .u32 a0, .int .u32 a1, .int .u32 a2] 23)) #[.int .u32 b0, .int .u32 b1, .int .u32 b2] 23).alloc (Obj.cells #[.int .u32 b0, .int .u32 a1, .int .u32 c2] 23))
  have HC := Lib.hid (Holds.new ((w.alloc (Obj.cells #[.int .u32 a0, .int .u32 a1, .int .u32 a2] 23)).alloc (Obj.cells #[.int .u32 b0, .int .u32 b1, .int .u32 b2] 23)) #[.int .u32 b0, .int .u32 a1, .int .u32 c2] 23)
  have HG := Lib.hid ((((Gr.refl [] w).alloc (Obj.cells #[.int .u32 a0, .int .u32 a1, .int .u32 a2] 23)).alloc (Obj.cells #[.int .u32 b0, .int .u32 b1, .int .u32 b2] 23)).alloc (Obj.cells #[.int .u32 b0, .int .u32 a1, .int .u32 c2] 23))
  simp only [World.size_alloc] at HB HC
  generalize ((w.alloc (Obj.cells #[.int .u32 a0, .int .u32 a1, .int .u32 a2] 23)).alloc (Obj.cells #[.int .u32 b0, .int .u32 b1, .int .u32 b2] 23)).alloc (Obj.cells #[.int .u32 b0, .int .u32 a1, .int .u32 c2] 23) = w1 at *
  have y0 := kp_cell (HA.out.cell 0)
  have y1 := kp_cell (HA.out.cell 1)
  have y2 := kp_cell (HA.out.cell 2)
  have z0 := kp_cell (HB.out.cell 0)
  have z1 := kp_cell (HB.out.cell 1)
  have z2 := kp_cell (HB.out.cell 2)
  have v0 := kp_cell (HC.out.cell 0)
  have v1 := kp_cell (HC.out.cell 1)
  have v2 := kp_cell (HC.out.cell 2)
  have hne := kp_ne w1
  have P1 := Lib.hid (fun x : Cls (Kp w1) => calls_below (wakes12_any x.w))
  have P2 := Lib.hid (fun x : Cls (Kp w1) => calls_below (of_any a0 a1 a2 x.w))
  have P3 := Lib.hid (fun x : Cls (Kp w1) => calls_below (of_any b0 b1 b2 x.w))
  have P4 := Lib.hid (fun x : Cls (Kp w1) => calls_below (of_any b0 a1 c2 x.w))
  have P5 := Lib.hid (fun x : Cls (Kp w1) => calls_below (follows_any a0 a1 a2 b0 b1 b2 x.w h2 k2))
  have P6 := Lib.hid (fun x : Cls (Kp w1) => calls_below (rfollows_any a0 a1 a2 b0 b1 b2 x.w h2 k2))
  have P7 := Lib.hid (fun x : Cls (Kp w1) => calls_below (follows_any b0 a1 c2 b0 b1 b2 x.w hcl k2))
  have P8 := Lib.hid (fun x : Cls (Kp w1) => calls_below (rfollows_any b0 a1 c2 b0 b1 b2 x.w hcl k2))
  refine wp_region_kp (by kernel_rfl) (by kernel_rfl) ?_
  repeat (go_big_quiet_step ((rename_i x; first
    | with_reducible exact kp_call x (P1.out x)
    | with_reducible exact kp_call x (P2.out x)
    | with_reducible exact kp_call x (P3.out x)
    | with_reducible exact kp_call x (P4.out x)
    | with_reducible exact kp_call x (P5.out x)
    | with_reducible exact kp_call x (P6.out x)
    | with_reducible exact kp_call x (P7.out x)
    | with_reducible exact kp_call x (P8.out x))))
  with_reducible refine wpQuiet_nil ?_
  rintro _ ⟨y, rfl⟩
  have HE := Lib.hid (HG.out.nextB y.h)
  go_wp2_with fail
  go_ret
  exact ⟨rfl, HE.out.below0⟩
theorem walk_RecFollows (a0 a1 : List Int) (l0 : a0.length = 3) (w0 : ∀ x ∈ a0, (Lit.int .u32 x).wf = true) (l1 : a1.length = 3) (w1 : ∀ x ∈ a1, (Lit.int .u32 x).wf = true) (w : World) :
    Calls Tryd.prog 4 #[.agg (a0.map (Value.int .u32)).toArray, .agg (a1.map (Value.int .u32)).toArray] w fun e w' => e = .returned (.bool true) ∧ Below w.heap.size w w' := by
  match a0, l0, a1, l1 with
  | [x, y, z], _, [p, q, r], _ =>
    have hx : ∀ v ∈ [x, y, z], 0 ≤ v ∧ v < 4294967296 := fun v hv => by have := bounds_u32 (w0 v hv); omega
    have hp : ∀ v ∈ [p, q, r], 0 ≤ v ∧ v < 4294967296 := fun v hv => by have := bounds_u32 (w1 v hv); omega
    simp only [List.mem_cons, List.mem_nil_iff, or_false, forall_eq_or_imp, forall_eq] at hx hp
    obtain ⟨x, rfl⟩ := Int.eq_ofNat_of_zero_le hx.1.1
    obtain ⟨y, rfl⟩ := Int.eq_ofNat_of_zero_le hx.2.1.1
    obtain ⟨z, rfl⟩ := Int.eq_ofNat_of_zero_le hx.2.2.1
    obtain ⟨p, rfl⟩ := Int.eq_ofNat_of_zero_le hp.1.1
    obtain ⟨q, rfl⟩ := Int.eq_ofNat_of_zero_le hp.2.1.1
    obtain ⟨r, rfl⟩ := Int.eq_ofNat_of_zero_le hp.2.2.1
    exact recFollows_any x y z p q r w (by omega) (by omega)

end Go.Proofs.YtpkhfdcokcchdabDoor
