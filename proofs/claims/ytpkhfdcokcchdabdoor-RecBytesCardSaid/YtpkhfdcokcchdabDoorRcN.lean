/-
  Layer 12: RecBytes, walked.
-/
import Derived.Test.YtpkhfdcokcchdabDoorRcI
import Derived.Test.YtpkhfdcokcchdabDoorRcM
namespace Go.Proofs.YtpkhfdcokcchdabDoor
open Go.RowKit

/-- What both Decodes tell of bytes. -/
theorem dec_both (x : ByteArray) (hx : x.size ≤ 100000) : ∃ (e v q kd : Nat) (T : ByteArray) (g : Nat), g ≤ 5 ∧
    (∀ w, Calls Tryd.prog 13 #[.string x] w fun r w' => r = .returned (.tuple #[.agg #[.int .u32 e, .int .u32 v, .int .u32 q], .agg #[.int .u8 kd, .string T], .int .i64 g]) ∧ Gr [] w w') ∧
    (∀ w, Calls Tryd.prog 14 #[.string x] w fun r w' => r = .returned (.tuple #[.agg #[.int .u32 e, .int .u32 v, .int .u32 q, .int .u8 kd, .string T], .int .i64 g]) ∧ Gr [] w w') := by
  cases f : formOk x.data.toList with
  | false =>
    refine ⟨0, 0, 0, 0, ⟨#[]⟩, 4, by omega, fun w => ?_, fun w => ?_⟩
    · refine (decode_any x w hx).mono fun r w' ⟨h1, h2⟩ => ⟨?_, h2⟩
      rw [h1, decV_form f]; rfl
    · refine (rdecode_any x w hx).mono fun r w' ⟨h1, h2⟩ => ⟨?_, h2⟩
      rw [h1, rdecV_form f]; rfl
  | true =>
    cases g : sumOk x.data.toList with
    | false =>
      refine ⟨0, 0, 0, 0, ⟨#[]⟩, 5, by omega, fun w => ?_, fun w => ?_⟩
      · refine (decode_any x w hx).mono fun r w' ⟨h1, h2⟩ => ⟨?_, h2⟩
        rw [h1, decV_sum f g]; rfl
      · refine (rdecode_any x w hx).mono fun r w' ⟨h1, h2⟩ => ⟨?_, h2⟩
        rw [h1, rdecV_sum f g]; rfl
    | true =>
      refine ⟨dE x.data.toList, dV x.data.toList, dQ x.data.toList, dKind x.data.toList, ⟨(dBody x.data.toList (dLen x.data.toList)).toArray⟩, 0, by omega, fun w => ?_, fun w => ?_⟩
      · refine (decode_any x w hx).mono fun r w' ⟨h1, h2⟩ => ⟨?_, h2⟩
        rw [h1, decV_yes f g]; rfl
      · refine (rdecode_any x w hx).mono fun r w' ⟨h1, h2⟩ => ⟨?_, h2⟩
        rw [h1, rdecV_yes f g]; rfl
/-- What both Encodes make of a record. -/
theorem enc_both (n0 n1 n2 kind : Nat) (X : ByteArray) (h0 : n0 < 4294967296) (h1 : n1 < 4294967296) (h2 : n2 < 4294967296) (hk : kind < 256) : ∃ (E : ByteArray) (z c : Nat) (ok : Bool), E.size = z ∧ z ≤ 1300 ∧ Hid (((c : Int) == 0) = ok) ∧ c ≤ 2 ∧
    (∀ w, Calls Tryd.prog 7 #[.agg #[.int .u32 n0, .int .u32 n1, .int .u32 n2], .agg #[.int .u8 kind, .string X]] w fun r w' => r = .returned (.tuple #[.string E, .int .i64 c]) ∧ Gr [] w w') ∧
    (∀ w, Calls Tryd.prog 9 #[.agg #[.int .u32 n0, .int .u32 n1, .int .u32 n2, .int .u8 kind, .string X]] w fun r w' => r = .returned (.tuple #[.string E, .int .i64 c]) ∧ Gr [] w w') ∧
    (∀ w, Calls Tryd.prog 11 #[.agg #[.int .u8 kind, .string X]] w fun r w' => r = .returned (.bool ok) ∧ Gr [] w w') ∧
    (∀ w, Calls Tryd.prog 12 #[.agg #[.int .u8 kind, .string X]] w fun r w' => r = .returned (.int .i64 z) ∧ Gr [] w w') := by
  by_cases h : kind = 0 ∨ 1024 < X.size
  · exact ⟨⟨#[]⟩, 0, 2, false, rfl, by omega, Lib.hid rfl, by omega, fun w => encode_no n0 n1 n2 kind X w h, fun w => rencode_no n0 n1 n2 kind X w h, fun w => rright_no kind X w h, fun w => rsize_no kind X w h⟩
  · have hz : kind ≠ 0 := fun q => h (.inl q)
    have hs : X.size ≤ 1024 := by omega
    refine ⟨⟨(encL n0 n1 n2 kind X.data.toList).toArray⟩, sizeN X.size, 0, true, ?_, ?_, Lib.hid rfl, by omega, fun w => encode_yes n0 n1 n2 kind X w h0 h1 h2 hk hz hs, fun w => rencode_yes n0 n1 n2 kind X w h0 h1 h2 hk hz hs, fun w => rright_yes kind X w hz hs, fun w => rsize_yes kind X w hz hs⟩
    · rw [size_list, mk_toList, encL_len, ← size_list]
    · unfold sizeN nW; omega
/-- The arguments' boxes. -/
structure YBox (w W : World) (b n0 n1 n2 kd : Nat) (X : ByteArray) : Prop where
  n : Holds W b #[.int .u32 n0, .int .u32 n1, .int .u32 n2] 23
  r : Holds W (b + 1) #[.int .u8 kd, .string X] 25
  g : Gr [] w W
theorem YBox.gr0 {w W W' : World} {b n0 n1 n2 kd : Nat} {X : ByteArray} (h : YBox w W b n0 n1 n2 kd X) (g : Gr [] W W') : YBox w W' b n0 n1 n2 kd X := ⟨h.n.gr0 g, h.r.gr0 g, h.g.next0 g⟩

set_option maxHeartbeats 8000000 in
set_option maxRecDepth 100000 in
theorem recBytes_any (n0 n1 n2 kd : Nat) (s : ByteArray) (w : World) (hn0 : n0 < 4294967296) (hn1 : n1 < 4294967296) (hn2 : n2 < 4294967296) (hk1 : kd < 256) (hs : s.size ≤ maxLen) :
    Calls Tryd.prog 3 #[.agg #[.int .u32 n0, .int .u32 n1, .int .u32 n2], .int .u8 kd, .string s] w fun e w' => e = .returned (.bool true) ∧ Below w.heap.size w w' := by
  unfold maxLen at hs
  obtain ⟨m, hm⟩ : ∃ m : Nat, m = min s.size 1100 := ⟨_, rfl⟩
  have hmn := minAB Tryd.prog (s.size : Int) 1100 m (by omega)
  have hm1 : m ≤ s.size := by omega
  have hm2 : m ≤ 1100 := by omega
  clear hm
  have hreq := req
  have hseq := seq
  have hgR := fun (W : World) (op : BinOp) (x y : Operand) (xs ys : Array Value) => run_eqGuard_agg (P := Tryd.prog) (w := W) op 25 x y xs ys rguardR
  have hgS := fun (W : World) (op : BinOp) (x y : Operand) (xs ys : Array Value) => run_eqGuard_agg (P := Tryd.prog) (w := W) op 30 x y xs ys rguardS
  obtain ⟨X, hX⟩ : ∃ X, X = s.extract 0 m := ⟨_, rfl⟩
  have hXs : X.size ≤ 1100 := by rw [hX, ByteArray.size_extract]; omega
  have HX := Lib.hid hX
  clear hX
  obtain ⟨E, z, c, ok, hEz, hz, hco, hc2, C1, C2, C3, C4⟩ := enc_both n0 n1 n2 kd X hn0 hn1 hn2 hk1
  have HC := Lib.hid (And.intro C1 (And.intro C2 (And.intro C3 C4)))
  clear C1 C2 C3 C4
  go_enter Tryd.func3, Tryd.ntmps3
  go_wp2_with fail
  rw [← HX.out]
  have B1 : YBox w ((w.alloc (Obj.cells #[.int .u32 n0, .int .u32 n1, .int .u32 n2] 23)).alloc (Obj.cells #[.int .u8 kd, .string X] 25)) w.heap.size n0 n1 n2 kd X := by
    refine ⟨(Holds.new w _ _).alloc _, ?_, ((Gr.refl [] w).alloc _).alloc _⟩
    have := Holds.new (w.alloc (Obj.cells #[.int .u32 n0, .int .u32 n1, .int .u32 n2] 23)) #[.int .u8 kd, .string X] 25
    rwa [World.size_alloc] at this
  have HB := Lib.hid B1
  clear B1
  generalize (w.alloc (Obj.cells #[.int .u32 n0, .int .u32 n1, .int .u32 n2] 23)).alloc (Obj.cells #[.int .u8 kd, .string X] 25) = w1 at *
  obtain ⟨bn, hbn⟩ : ∃ b, w.heap.size = b := ⟨_, rfl⟩
  rw [hbn] at HB ⊢
  clear hbn
  have c0 := kp_cell (HB.out.n.cell 0)
  have c1 := kp_cell (HB.out.n.cell 1)
  have c2 := kp_cell (HB.out.n.cell 2)
  have r0 := kp_cell (HB.out.r.cell 0)
  have r1 := kp_cell (HB.out.r.cell 1)
  have hne := kp_ne w1
  have P1 := Lib.hid (fun x : Cls (Kp w1) => calls_below (of_any n0 n1 n2 x.w))
  have P2 := Lib.hid (fun x : Cls (Kp w1) => calls_below (HC.out.1 x.w))
  refine wp_region_kp (by kernel_rfl) (by kernel_rfl) ?_
  repeat (go_big_quiet_step ((rename_i x; first
    | with_reducible exact kp_call x (P1.out x)
    | with_reducible exact kp_call x (P2.out x))))
  with_reducible refine wpQuiet_nil ?_
  rintro _ ⟨y, rfl⟩
  have HB2 := Lib.hid (HB.out.gr0 (.ofBelow y.h))
  clear HB P1 P2 c0 c1 c2 r0 r1 hne
  generalize y.w = w2 at *
  clear y
  have c0 := HB2.out.n.cell 0
  have c1 := HB2.out.n.cell 1
  have c2 := HB2.out.n.cell 2
  go_wp2_with fail
  with_reducible refine (HC.out.2.1 _).mono ?_
  rintro r w3 ⟨rfl, g3⟩
  have HB3 := Lib.hid (HB2.out.gr0 g3)
  clear HB2 c0 c1 c2 g3
  go_wp2_with fail
  with_reducible refine (wakes12_any _).mono ?_
  rintro r w4 ⟨rfl, g4⟩
  have HB4 := Lib.hid (HB3.out.gr0 g4)
  clear HB3 g4
  have r0 := HB4.out.r.cell 0
  have r1 := HB4.out.r.cell 1
  have hEE : (E.toList == E.toList) = true := bs_beq_true rfl
  have hco2 := hco.out
  go_wp2_with fail
  with_reducible refine (HC.out.2.2.1 _).mono ?_
  rintro r w5 ⟨rfl, g5⟩
  have HB5 := Lib.hid (HB4.out.gr0 g5)
  clear HB4 r0 r1 g5
  have r0 := HB5.out.r.cell 0
  have r1 := HB5.out.r.cell 1
  go_wp2_with fail
  with_reducible refine (HC.out.2.2.2 _).mono ?_
  rintro r w6 ⟨rfl, g6⟩
  have HB6 := Lib.hid (HB5.out.gr0 g6)
  clear HB5 r0 r1 g6 hco2
  obtain ⟨r, hr⟩ : ∃ r : Nat, r = z - 1 := ⟨_, rfl⟩
  have hmx := fun ts t W => (max0 Tryd.prog ts t ((z : Int) - 1) W).trans (by rw [show mx ((z : Int) - 1) = (r : Int) by unfold mx; omega])
  have hrz : (r : Int) ≤ (z : Int) := by omega
  have hr0 : (0 : Int) ≤ (r : Int) := by omega
  clear hr
  obtain ⟨M, hM⟩ : ∃ M, M = E ++ X := ⟨_, rfl⟩
  have hadd := fun (W : World) => (run_string_add_sum (P := Tryd.prog) (w := W) E X (by omega)).trans (by rw [← hM])
  have hMs : M.size ≤ 100000 := by rw [hM, size_list, app_toList, List.length_append, ← size_list, ← size_list]; omega
  have HM := Lib.hid hM
  clear hM
  go_wp2_with fail
  obtain ⟨F, hF⟩ : ∃ F, F = E.extract 0 r := ⟨_, rfl⟩
  have hFs : F.size ≤ 100000 := by rw [hF, ByteArray.size_extract]; omega
  rw [← hF]
  have HP := Lib.hid (Holds.new w6 #[.string X, .string E, .string M, .string F] 9)
  have HG := Lib.hid (HB6.out.g.alloc (Obj.cells #[.string X, .string E, .string M, .string F] 9))
  clear HB6 hF hmx hadd hEE
  generalize w6.alloc (Obj.cells #[.string X, .string E, .string M, .string F] 9) = w7 at *
  obtain ⟨bp, hbp⟩ : ∃ b, w6.heap.size = b := ⟨_, rfl⟩
  rw [hbp] at HP ⊢
  clear hbp
  go_wp2_with fail
  go_loopw [81] (fun i wr => ∃ k : Nat, k ≤ 4 ∧ i = .int .i64 k ∧ Holds wr bp #[.string X, .string E, .string M, .string F] 9 ∧ Gr [] w wr) (fun i _ => 4 - (intOf i).toNat)
  case atStart => exact ⟨0, by omega, rfl, HP.out, HG.out⟩
  case round =>
    clear HP HG
    obtain ⟨k, hk, rfl, hP, hG⟩ := hrel
    by_cases hk4 : k < 4
    · obtain ⟨x, hx, p0⟩ : ∃ x : ByteArray, x.size ≤ 100000 ∧ wr.cell? ⟨bp, k, none⟩ = some (.string x) := by
        obtain rfl | rfl | rfl | rfl : k = 0 ∨ k = 1 ∨ k = 2 ∨ k = 3 := by omega
        · exact ⟨X, by omega, hP.cell 0⟩
        · exact ⟨E, by omega, hP.cell 1⟩
        · exact ⟨M, hMs, hP.cell 2⟩
        · exact ⟨F, hFs, hP.cell 3⟩
      obtain ⟨e, v, q, kx, T, g, hg5, D1, D2⟩ := dec_both x hx
      have HD := Lib.hid (And.intro D1 D2)
      have HQ := Lib.hid (And.intro hP hG)
      have hk5 : (k : Int) < 4 := by omega
      clear D1 D2 hP hG hx
      go_wp2_with fail
      with_reducible refine (HD.out.1 _).mono ?_
      rintro r w8 ⟨rfl, g8⟩
      have H8 := Lib.hid (And.intro (HQ.out.1.gr0 g8) (HQ.out.2.next0 g8))
      clear g8 HQ p0
      have hS := (Holds.new w8 #[.int .u32 e, .int .u32 v, .int .u32 q] 30).alloc (Obj.cells #[.int .u8 kx, .string T] 25)
      have hR := Holds.new (w8.alloc (Obj.cells #[.int .u32 e, .int .u32 v, .int .u32 q] 30)) #[.int .u8 kx, .string T] 25
      rw [World.size_alloc] at hR
      have gA := ((Gr.refl [] w8).alloc (Obj.cells #[.int .u32 e, .int .u32 v, .int .u32 q] 30)).alloc (Obj.cells #[.int .u8 kx, .string T] 25)
      have H9 := Lib.hid (And.intro (H8.out.1.gr0 gA) (And.intro (H8.out.2.next0 gA) (And.intro hS hR)))
      clear hS hR gA H8
      go_wp2_with fail
      generalize (w8.alloc (Obj.cells #[.int .u32 e, .int .u32 v, .int .u32 q] 30)).alloc (Obj.cells #[.int .u8 kx, .string T] 25) = w9 at *
      obtain ⟨b1, hb1⟩ : ∃ b, w8.heap.size = b := ⟨_, rfl⟩
      rw [hb1] at H9 ⊢
      clear hb1
      with_reducible refine (HD.out.2 _).mono ?_
      rintro r wa ⟨rfl, ga⟩
      have hZ := Holds.new wa #[.int .u32 e, .int .u32 v, .int .u32 q, .int .u8 kx, .string T] 35
      have gB := ga.alloc (Obj.cells #[.int .u32 e, .int .u32 v, .int .u32 q, .int .u8 kx, .string T] 35)
      have HA := Lib.hid (And.intro (H9.out.1.gr0 gB) (And.intro (H9.out.2.1.next0 gB) (And.intro (H9.out.2.2.1.gr0 gB) (And.intro (H9.out.2.2.2.gr0 gB) hZ))))
      clear hZ gB ga H9 HD
      go_wp2_with fail
      generalize wa.alloc (Obj.cells #[.int .u32 e, .int .u32 v, .int .u32 q, .int .u8 kx, .string T] 35) = wb at *
      obtain ⟨b2, hb2⟩ : ∃ b, wa.heap.size = b := ⟨_, rfl⟩
      rw [hb2] at HA ⊢
      clear hb2
      have s0 := kp_cell (HA.out.2.2.1.cell 0)
      have s1 := kp_cell (HA.out.2.2.1.cell 1)
      have s2 := kp_cell (HA.out.2.2.1.cell 2)
      have q0 := kp_cell (HA.out.2.2.2.1.cell 0)
      have q1 := kp_cell (HA.out.2.2.2.1.cell 1)
      have z0 := kp_cell (HA.out.2.2.2.2.cell 0)
      have z1 := kp_cell (HA.out.2.2.2.2.cell 1)
      have z2 := kp_cell (HA.out.2.2.2.2.cell 2)
      have z3 := kp_cell (HA.out.2.2.2.2.cell 3)
      have z4 := kp_cell (HA.out.2.2.2.2.cell 4)
      have hne := kp_ne wb
      have P1 := Lib.hid (fun x : Cls (Kp wb) => calls_below (of_any e v q x.w))
      have hTT : (T.toList == T.toList) = true := bs_beq_true rfl
      refine wp_region_kp (by kernel_rfl) (by kernel_rfl) ?_
      repeat (go_big_quiet_step ((rename_i x; first
        | with_reducible exact kp_call x (P1.out x))))
      with_reducible refine wpQuiet_nil ?_
      rintro _ ⟨y, rfl⟩
      have HF := Lib.hid (And.intro (HA.out.1.gr0 (.ofBelow y.h)) (HA.out.2.1.nextB y.h))
      clear HA P1 s0 s1 s2 q0 q1 z0 z1 z2 z3 z4 hne
      generalize y.w = wc at *
      clear y
      go_wp2_with fail
      go_roundw
      case rel => exact ⟨k + 1, by omega, by simp, HF.out.1, HF.out.2⟩
      case measure => simp [intOf]; omega
    · obtain rfl : k = 4 := by omega
      have hfin := Lib.hid hG.below0
      clear hP hG
      go_wp2_with fail
      go_ret
      exact ⟨rfl, hfin.out⟩

theorem walk_RecBytes (a0 : List Int) (a1 : Int) (a2 : ByteArray) (l0 : a0.length = 3) (w0 : ∀ x ∈ a0, (Lit.int .u32 x).wf = true) (w1 : (Lit.int .u8 a1).wf = true) (w2 : a2.size ≤ maxLen) (_x2 : a2.size ≤ reachBytes) (w : World) :
    Calls Tryd.prog 3 #[.agg (a0.map (Value.int .u32)).toArray, .int .u8 a1, .string a2] w fun e w' => e = .returned (.bool true) ∧ Below w.heap.size w w' := by
  match a0, l0 with
  | [x, y, z], _ =>
    have hx : ∀ v ∈ [x, y, z], 0 ≤ v ∧ v < 4294967296 := fun v hv => by have := bounds_u32 (w0 v hv); omega
    have hp := bounds_u8 w1
    simp only [List.mem_cons, List.mem_nil_iff, or_false, forall_eq_or_imp, forall_eq] at hx
    obtain ⟨x, rfl⟩ := Int.eq_ofNat_of_zero_le hx.1.1
    obtain ⟨y, rfl⟩ := Int.eq_ofNat_of_zero_le hx.2.1.1
    obtain ⟨z, rfl⟩ := Int.eq_ofNat_of_zero_le hx.2.2.1
    obtain ⟨k, rfl⟩ := Int.eq_ofNat_of_zero_le hp.1
    exact recBytes_any x y z k a2 w (by omega) (by omega) (by omega) (by omega) w2

end Go.Proofs.YtpkhfdcokcchdabDoor
