/-
  Layer 16: InodeRight.
-/
import Derived.Test.YtpkhfdcokcchdabInT
import Derived.Deep.RegionHeld3
import Derived.Deep.CutBlock
import Derived.Deep.DeepCutAuto
namespace Go.Proofs.Ytpkhfdcokcchdab
open Go.RowKit

/-- Program and reference give the same, of one inode. -/
theorem both16 (k : Nat) (l s : Int) (b : List (Int × Int)) (t : ByteArray) (n nm : Int) (ht : t.size ≤ maxLen) :
    ∃ (r : Bool) (Xn Xm : ByteArray), ∀ (W : World) (ao : Option Addr) (cap : Nat), Rd2 W ao b →
      Calls Try.prog 14 #[.agg #[.int .u8 k, .int .i64 l, .int .i64 s, .slice ao b.length cap, .string t]] W (fun e w' => e = .returned (.bool r) ∧ Gr [] W w') ∧
      Calls Try.prog 15 #[.agg #[.int .u8 k, .int .i64 l, .int .i64 s, .slice ao b.length cap, .string t]] W (fun e w' => e = .returned (.bool r) ∧ Gr [] W w') ∧
      Calls Try.prog 16 #[.agg #[.int .u8 k, .int .i64 l, .int .i64 s, .slice ao b.length cap, .string t], .int .i64 n] W (fun e w' => e = .returned (.string Xn) ∧ Gr [] W w') ∧
      Calls Try.prog 17 #[.agg #[.int .u8 k, .int .i64 l, .int .i64 s, .slice ao b.length cap, .string t], .int .i64 n] W (fun e w' => e = .returned (.string Xn) ∧ Gr [] W w') ∧
      Calls Try.prog 16 #[.agg #[.int .u8 k, .int .i64 l, .int .i64 s, .slice ao b.length cap, .string t], .int .i64 nm] W (fun e w' => e = .returned (.string Xm) ∧ Gr [] W w') ∧
      Calls Try.prog 17 #[.agg #[.int .u8 k, .int .i64 l, .int .i64 s, .slice ao b.length cap, .string t], .int .i64 nm] W (fun e w' => e = .returned (.string Xm) ∧ Gr [] W w') := by
  have tx : ∀ n : Int, ∃ X : ByteArray, ∀ (W : World) (ao : Option Addr) (cap : Nat), Rd2 W ao b →
      Calls Try.prog 16 #[.agg #[.int .u8 k, .int .i64 l, .int .i64 s, .slice ao b.length cap, .string t], .int .i64 n] W (fun e w' => e = .returned (.string X) ∧ Gr [] W w') ∧
      Calls Try.prog 17 #[.agg #[.int .u8 k, .int .i64 l, .int .i64 s, .slice ao b.length cap, .string t], .int .i64 n] W (fun e w' => e = .returned (.string X) ∧ Gr [] W w') := fun n => by
    by_cases h : Right16 k l s b t ∧ 0 ≤ n ∧ n ≤ 65535
    · obtain ⟨X, hX⟩ := mkS (txtL k l s b t n)
      exact ⟨X, fun W ao cap hv => ⟨itext_yes k l s b t X n b.length ao cap W hv rfl h.1 h.2.1 h.2.2 hX, rtext16_yes k l s b t X n b.length ao cap W hv rfl h.1 h.2.1 h.2.2 hX⟩⟩
    · exact ⟨⟨#[]⟩, fun W ao cap hv => ⟨itext_no k l s b t n b.length ao cap W hv rfl h, rtext16_no k l s b t n b.length ao cap W hv ht rfl h⟩⟩
  obtain ⟨Xn, hXn⟩ := tx n
  obtain ⟨Xm, hXm⟩ := tx nm
  by_cases h : Right16 k l s b t
  · exact ⟨true, Xn, Xm, fun W ao cap hv => ⟨iright_yes k l s b t b.length ao cap W hv rfl h, rright16_yes k l s b t b.length ao cap W hv ht rfl h, (hXn W ao cap hv).1, (hXn W ao cap hv).2, (hXm W ao cap hv).1, (hXm W ao cap hv).2⟩⟩
  · exact ⟨false, Xn, Xm, fun W ao cap hv => ⟨iright_no k l s b t b.length ao cap W hv rfl h, rright16_no k l s b t b.length ao cap W hv ht rfl h, (hXn W ao cap hv).1, (hXn W ao cap hv).2, (hXm W ao cap hv).1, (hXm W ao cap hv).2⟩⟩
theorem kA5 {W : World} {b : Nat} {x0 x1 x2 x3 x4 : Value} (h : W.cell? ⟨b, 0, none⟩ = some x0 ∧ W.cell? ⟨b, 1, none⟩ = some x1 ∧ W.cell? ⟨b, 2, none⟩ = some x2 ∧ W.cell? ⟨b, 3, none⟩ = some x3 ∧ W.cell? ⟨b, 4, none⟩ = some x4) : W.drew.cell? ⟨b, 0, none⟩ = some x0 ∧ W.drew.cell? ⟨b, 1, none⟩ = some x1 ∧ W.drew.cell? ⟨b, 2, none⟩ = some x2 ∧ W.drew.cell? ⟨b, 3, none⟩ = some x3 ∧ W.drew.cell? ⟨b, 4, none⟩ = some x4 := h
theorem hc5 {W : World} {b : Nat} {x0 x1 x2 x3 x4 : Value} {T : TypeId} (h : Holds W b #[x0, x1, x2, x3, x4] T) : W.cell? ⟨b, 0, none⟩ = some x0 ∧ W.cell? ⟨b, 1, none⟩ = some x1 ∧ W.cell? ⟨b, 2, none⟩ = some x2 ∧ W.cell? ⟨b, 3, none⟩ = some x3 ∧ W.cell? ⟨b, 4, none⟩ = some x4 := ⟨h.cell 0, h.cell 1, h.cell 2, h.cell 3, h.cell 4⟩
set_option maxHeartbeats 16000000 in
set_option maxRecDepth 100000 in
theorem iright_law (k : Nat) (l s : Int) (bl : List (Int × Int)) (t : ByteArray) (N : Nat) (ao : Option Addr) (cV : Nat) (n : Int) (w : World) (hv : Sl2 w (.slice ao N cV) bl) (ht : t.size ≤ maxLen) (hk0 : k < 256) (hs : s ≤ 9223372036854775807) (hn : n ≤ 9223372036854775807) :
    Calls Try.prog 3 #[.agg #[.int .u8 k, .int .i64 l, .int .i64 s, .slice ao N cV, .string t], .int .i64 n] w fun e w' => e = .returned (.bool true) ∧ Gr [] w w' := by
  obtain ⟨M, hM⟩ : ∃ M, M = min N 70 := ⟨_, rfl⟩
  obtain ⟨U, hU⟩ : ∃ U, U = t.extract 0 (min t.size 300) := ⟨_, rfl⟩
  obtain ⟨cl, hcl⟩ : ∃ cl, cl = bl.take 70 := ⟨_, rfl⟩
  have HG := Lib.hid ((Gr.refl [] w).alloc (Obj.cells #[.int .u8 k, .int .i64 l, .int .i64 s, .slice ao N cV, .string t] 24))
  have HA := Lib.hid (Holds.new w #[.int .u8 k, .int .i64 l, .int .i64 s, .slice ao N cV, .string t] 24)
  have HS := Lib.hid (hv.gr0 HG.out)
  have hUs : U.size ≤ 300 := by rw [hU, ByteArray.size_extract]; omega
  have HCT := Lib.hid (fun (W : World) (hW : Sl2 W (.slice ao N cV) bl) => (show Calls Try.prog 11 #[.agg #[.int .u8 k, .int .i64 l, .int .i64 s, .slice ao N cV, .string t]] W fun e w' => e = .returned (.agg #[.int .u8 k, .int .i64 l, .int .i64 s, .slice ao M cV, .string U]) ∧ Sl2 w' (.slice ao M cV) cl ∧ Gr [] W w' from by
    have q := ecut16_any k l s bl t N ao cV W hW ht
    rw [← hM, ← hU] at q
    have r := sl2_take hW 70
    rw [← hM, ← hcl] at r
    exact q.mono fun e w' z => ⟨z.1, r.gr0 z.2, z.2⟩))
  have HTM := Lib.hid (fun (W : World) (hW : Sl2 W (.slice ao N cV) bl) => etame16 k l s bl t N ao cV W hW ht hk0)
  have HCL := Lib.hid (show cl.length ≤ 70 by rw [hcl, List.length_take]; omega)
  clear hv hM hU hcl
  go_enter Try.func3, Try.ntmps3
  go_wp2_with fail
  generalize w.alloc (Obj.cells #[.int .u8 k, .int .i64 l, .int .i64 s, .slice ao N cV, .string t] 24) = w0 at *
  obtain ⟨b, hb⟩ : ∃ b, w.heap.size = b := ⟨_, rfl⟩
  rw [hb] at HA ⊢
  clear hb
  go_cut [13, 14, 15] (fun v nn ii wz => nn = .int .i64 2 ∧ ii = .int .i64 0 ∧ ∃ (bb k1 : Nat) (l1 s1 : Int) (b1 : List (Int × Int)) (t1 : ByteArray) (a1 : Option Addr) (c1 : Nat), v = .slice (some ⟨bb, 0, none⟩) 2 2 ∧ Holds wz bb #[.int .u8 k, .int .i64 l, .int .i64 s, .slice ao M cV, .string U, .int .u8 k1, .int .i64 l1, .int .i64 s1, .slice a1 b1.length c1, .string t1] 24 ∧ Sl2 wz (.slice ao M cV) cl ∧ Sl2 wz (.slice a1 b1.length c1) b1 ∧ Right16 k1 l1 s1 b1 t1 ∧ Gr [] w0 wz)
  case first =>
    have s0 := hc5 HA.out
    have s0d := kA5 s0
    go_region_held3 (fun w' : World => w'.cell? ⟨b, 0, none⟩ = some (.int .u8 k) ∧ w'.cell? ⟨b, 1, none⟩ = some (.int .i64 l) ∧ w'.cell? ⟨b, 2, none⟩ = some (.int .i64 s) ∧ w'.cell? ⟨b, 3, none⟩ = some (.slice ao N cV) ∧ w'.cell? ⟨b, 4, none⟩ = some (.string t)) (with_reducible (first | assumption | exact kA5 (by assumption) | exact sA6 _)) ((first
      | (go_at_call 12; (with_reducible refine Calls.mono (HTM.out _ ?_) ?_); exact HC5.out.1; rintro r w6 ⟨k1, l1, s1, b1, t1, a1, c1, rfl, r6, hr6, g6⟩; have G6 : Gr [] w5 w6 := ⟨g6.os, g6.tape, g6.output, g6.size, g6.block⟩; have HZ := Lib.hid (And.intro (HC5.out.2.1.gr0 G6) (And.intro r6 (And.intro hr6 (HC5.out.2.2.1.next0 G6)))); have s6 := hc5 (HC5.out.2.2.2.gr0 G6); have sA6 := fun (o : Obj) => hc5 ((HC5.out.2.2.2.gr0 G6).alloc o); clear r6 hr6 g6 G6)
      | (go_at_call 11; (with_reducible refine Calls.mono (HCT.out _ ?_) ?_); exact HS.out; rintro r w5 ⟨rfl, r5, g5⟩; have G5 : Gr [] w0 w5 := ⟨g5.os, g5.tape, g5.output, g5.size, g5.block⟩; have HC5 := Lib.hid (And.intro (HS.out.gr0 G5) (And.intro r5 (And.intro G5 (HA.out.gr0 G5)))); have s5 := hc5 HC5.out.2.2.2; clear r5 g5 G5)))
    go_wp2_with fail
    go_meet
    have ga := (Gr.refl [] w6).alloc (Obj.cells #[.int .u8 k, .int .i64 l, .int .i64 s, .slice ao M cV, .string U, .int .u8 k1, .int .i64 l1, .int .i64 s1, .slice a1 b1.length c1, .string t1] 24)
    exact ⟨rfl, rfl, _, k1, l1, s1, b1, t1, a1, c1, rfl, Holds.new _ _ _, HZ.out.1.gr0 ga, HZ.out.2.1.gr0 ga, HZ.out.2.2.1, HZ.out.2.2.2.next0 ga⟩
  case rest =>
    obtain ⟨rfl, rfl, bb, k1, l1, s1, b1, t1, a1, c1, rfl, hrow, hsc, hst, hr16, hg⟩ := hcut
    have HW := Lib.hid (And.intro hrow (And.intro hsc (And.intro hst (And.intro hr16 hg))))
    clear hrow hsc hst hr16 hg
    go_wp2_with fail
    go_loopw [15] (fun i wr => ∃ j : Nat, j ≤ 2 ∧ i = .int .i64 j ∧ Gr [] wc wr) (fun i _ => 2 - (intOf i).toNat)
    case atStart => exact ⟨0, by omega, rfl, Gr.refl _ _⟩
    case round =>
      obtain ⟨j, hj, rfl, G⟩ := hrel
      by_cases hj2 : j < 2
      · have hj3 : (j : Int) < 2 := by omega
        obtain ⟨K, Lk, Sz, B, T1, A1, C1, y0, y1, y2, y3, y4, hsl, hT1, hB1⟩ : ∃ (K : Nat) (Lk Sz : Int) (B : List (Int × Int)) (T1 : ByteArray) (A1 : Option Addr) (C1 : Nat), wr.cell? ⟨bb, j * 5, none⟩ = some (.int .u8 K) ∧ wr.cell? ⟨bb, j * 5 + 1, none⟩ = some (.int .i64 Lk) ∧ wr.cell? ⟨bb, j * 5 + 2, none⟩ = some (.int .i64 Sz) ∧ wr.cell? ⟨bb, j * 5 + 3, none⟩ = some (.slice A1 B.length C1) ∧ wr.cell? ⟨bb, j * 5 + 4, none⟩ = some (.string T1) ∧ Sl2 wr (.slice A1 B.length C1) B ∧ T1.size ≤ 300 ∧ B.length ≤ 70 := by
          have hh := HW.out.1.gr0 G
          by_cases c : j = 0
          · subst c
            have q := (sl2_parts HW.out.2.1).1
            have r := HW.out.2.1.gr0 G
            rw [q] at r
            refine ⟨k, l, s, cl, U, ao, cV, hh.cell 0, hh.cell 1, hh.cell 2, ?_, hh.cell 4, r, hUs, HCL.out⟩
            rw [← q]
            exact hh.cell 3
          · obtain rfl : j = 1 := by omega
            have f := r16_facts HW.out.2.2.2.1
            exact ⟨k1, l1, s1, b1, t1, a1, c1, hh.cell 5, hh.cell 6, hh.cell 7, hh.cell 8, hh.cell 9, HW.out.2.2.1.gr0 G, by omega, by have := f.2.2.2.2.2.2.1; omega⟩
        have gX := (Gr.refl [] wr).alloc (Obj.cells #[.int .u8 K, .int .i64 Lk, .int .i64 Sz, .slice A1 B.length C1, .string T1] 24)
        have HX := Lib.hid (Holds.new wr #[.int .u8 K, .int .i64 Lk, .int .i64 Sz, .slice A1 B.length C1, .string T1] 24)
        have HO := Lib.hid (eof_any K Lk Sz B T1 B.length A1 C1 _ (hsl.gr0 gX) (by omega))
        have HQ := Lib.hid (And.intro (hsl.gr0 gX) (G.next0 gX))
        clear hsl G gX
        go_wp2_with fail
        generalize wr.alloc (Obj.cells #[.int .u8 K, .int .i64 Lk, .int .i64 Sz, .slice A1 B.length C1, .string T1] 24) = wx at *
        generalize wr.heap.size = bx at *
        with_reducible refine HO.out.mono ?_
        rintro e w2 ⟨a2, c2, rfl, sb2, g2⟩
        have HX2 := Lib.hid ((HX.out.gr0 g2).alloc (Obj.cells #[.int .u8 K, .int .i64 Lk, .int .i64 Sz, .slice a2 B.length c2, .string T1] 31))
        have h7 := Holds.new w2 #[.int .u8 K, .int .i64 Lk, .int .i64 Sz, .slice a2 B.length c2, .string T1] 31
        have gA := (Gr.refl [] w2).alloc (Obj.cells #[.int .u8 K, .int .i64 Lk, .int .i64 Sz, .slice a2 B.length c2, .string T1] 31)
        have x0 := HX2.out.cell 0
        have x1 := HX2.out.cell 1
        have x2 := HX2.out.cell 2
        have x3 := HX2.out.cell 3
        have x4 := HX2.out.cell 4
        have gB := (Gr.refl [] (w2.alloc (Obj.cells #[.int .u8 K, .int .i64 Lk, .int .i64 Sz, .slice a2 B.length c2, .string T1] 31))).alloc (Obj.cells #[.int .u8 K, .int .i64 Lk, .int .i64 Sz, .slice A1 B.length C1, .string T1] 33)
        have h8 := Holds.new (w2.alloc (Obj.cells #[.int .u8 K, .int .i64 Lk, .int .i64 Sz, .slice a2 B.length c2, .string T1] 31)) #[.int .u8 K, .int .i64 Lk, .int .i64 Sz, .slice A1 B.length C1, .string T1] 33
        rw [World.size_alloc] at h8
        have HH := Lib.hid (And.intro (h7.gr0 gB) (And.intro h8 (And.intro ((sb2.gr0 gA).gr0 gB) (And.intro (((HQ.out.1.gr0 g2).gr0 gA).gr0 gB) (((HQ.out.2.next0 g2).next0 gA).next0 gB)))))
        clear g2 gA gB h7 h8 sb2 HO HQ HX y0 y1 y2 y3 y4
        go_upto_region 6 with fail
        generalize (w2.alloc (Obj.cells #[.int .u8 K, .int .i64 Lk, .int .i64 Sz, .slice a2 B.length c2, .string T1] 31)).alloc (Obj.cells #[.int .u8 K, .int .i64 Lk, .int .i64 Sz, .slice A1 B.length C1, .string T1] 33) = w3 at *
        generalize w2.heap.size = b7 at *
        clear x0 x1 x2 x3 x4 HX2
        obtain ⟨nm, hnm⟩ : ∃ nm, nm = mx n % 65536 := ⟨_, rfl⟩
        have hnm2 : mx n % 65536 = nm := hnm.symm
        have hmn0 := mx_nonneg n
        have hmx := max0 Try.prog
        have hnmb : 0 ≤ nm ∧ nm ≤ 65535 := by omega
        obtain ⟨r, Xn, Xm, hcon⟩ := both16 K Lk Sz B T1 n nm (by unfold maxLen; omega)
        have HCON := Lib.hid hcon
        have i0 := kp_cell (HH.out.1.cell 0)
        have i1 := kp_cell (HH.out.1.cell 1)
        have i2 := kp_cell (HH.out.1.cell 2)
        have i3 := kp_cell (HH.out.1.cell 3)
        have i4 := kp_cell (HH.out.1.cell 4)
        have r0 := kp_cell (HH.out.2.1.cell 0)
        have r1 := kp_cell (HH.out.2.1.cell 1)
        have r2 := kp_cell (HH.out.2.1.cell 2)
        have r3 := kp_cell (HH.out.2.1.cell 3)
        have r4 := kp_cell (HH.out.2.1.cell 4)
        have hne := kp_ne w3
        have P1 := Lib.hid (fun x : Cls (Kp w3) => calls_below (HCON.out x.w a2 c2 ((sl2_parts HH.out.2.2.1).2.1.below x.h)).1)
        have P2 := Lib.hid (fun x : Cls (Kp w3) => calls_below (HCON.out x.w A1 C1 ((sl2_parts HH.out.2.2.2.1).2.1.below x.h)).2.1)
        have P3 := Lib.hid (fun x : Cls (Kp w3) => calls_below (HCON.out x.w a2 c2 ((sl2_parts HH.out.2.2.1).2.1.below x.h)).2.2.1)
        have P4 := Lib.hid (fun x : Cls (Kp w3) => calls_below (HCON.out x.w A1 C1 ((sl2_parts HH.out.2.2.2.1).2.1.below x.h)).2.2.2.1)
        have P5 := Lib.hid (fun x : Cls (Kp w3) => calls_below (HCON.out x.w a2 c2 ((sl2_parts HH.out.2.2.1).2.1.below x.h)).2.2.2.2.1)
        have P6 := Lib.hid (fun x : Cls (Kp w3) => calls_below (HCON.out x.w A1 C1 ((sl2_parts HH.out.2.2.2.1).2.1.below x.h)).2.2.2.2.2)
        clear hnm hcon
        refine wp_region_kp (by kernel_rfl) (by kernel_rfl) ?_
        repeat (go_big_quiet_step ((rename_i x; first
          | with_reducible exact kp_call x (P1.out x)
          | with_reducible exact kp_call x (P2.out x)
          | with_reducible exact kp_call x (P3.out x)
          | with_reducible exact kp_call x (P4.out x)
          | with_reducible exact kp_call x (P5.out x)
          | with_reducible exact kp_call x (P6.out x))))
        with_reducible refine wpQuiet_nil ?_
        rintro _ ⟨y, rfl⟩
        have HF := Lib.hid (HH.out.2.2.2.2.nextB y.h)
        go_wp2_with fail
        go_roundw
        case rel => exact ⟨j + 1, by omega, by go_num, HF.out⟩
        case measure => simp [intOf]; omega
      · have hj4 : (j : Int) = 2 := by omega
        rw [hj4]
        clear hj4 hj2
        have GW := HW.out.2.2.2.2.next0 G
        have HBr := Lib.hid (HA.out.gr0 GW)
        have HSr := Lib.hid (HS.out.gr0 GW)
        have HGr := Lib.hid (HG.out.next0 GW)
        clear G GW
        go_wp2_with fail
        have s0 := hc5 HBr.out
        have s0d := kA5 s0
        go_region_held3 (fun w' : World => w'.cell? ⟨b, 0, none⟩ = some (.int .u8 k) ∧ w'.cell? ⟨b, 1, none⟩ = some (.int .i64 l) ∧ w'.cell? ⟨b, 2, none⟩ = some (.int .i64 s) ∧ w'.cell? ⟨b, 3, none⟩ = some (.slice ao N cV) ∧ w'.cell? ⟨b, 4, none⟩ = some (.string t)) (with_reducible (first | assumption | exact kA5 (by assumption))) ((first
          | (go_at_call 20; (with_reducible refine Calls.mono (rneed_any n _ hn) ?_); rintro r w11 ⟨rfl, g11⟩; have GK11 : Gr [] wr w11 := GK10.next0 ⟨g11.os, g11.tape, g11.output, g11.size, g11.block⟩; have s11 := hc5 (HBr.out.gr0 GK11); clear g11)
          | (go_at_call 19; (with_reducible refine Calls.mono (need_any n _ hn) ?_); rintro r w10 ⟨rfl, g10⟩; have GK10 : Gr [] wr w10 := GK9.next0 ⟨g10.os, g10.tape, g10.output, g10.size, g10.block⟩; have s10 := hc5 (HBr.out.gr0 GK10); clear g10)
          | (go_at_call 20; (with_reducible refine Calls.mono (rneed_any s _ hs) ?_); rintro r w9 ⟨rfl, g9⟩; have GK9 : Gr [] wr w9 := GK8.next0 ⟨g9.os, g9.tape, g9.output, g9.size, g9.block⟩; have s9 := hc5 (HBr.out.gr0 GK9); clear g9)
          | (go_at_call 19; (with_reducible refine Calls.mono (need_any s _ hs) ?_); rintro r w8 ⟨rfl, g8⟩; have GK8 : Gr [] wr w8 := GK7.next0 ⟨g8.os, g8.tape, g8.output, g8.size, g8.block⟩; have s8 := hc5 (HBr.out.gr0 GK8); clear g8)
          | (go_at_call 15; (with_reducible refine Calls.mono (rright16_yes k2 l2 s2 b2 t2 b2.length a2 c2 _ ?_ ?_ rfl HT6.out.2) ?_); exact (sl2_parts HT6.out.1).2.1; exact (by have := (r16_facts HT6.out.2).2.2.2.2.2.1; unfold maxLen; omega); rintro r w7 ⟨rfl, g7⟩; have GK7 : Gr [] wr w7 := GK6.next0 ⟨g7.os, g7.tape, g7.output, g7.size, g7.block⟩; have s7 := hc5 (HBr.out.gr0 GK7); clear g7)
          | (go_at_call 12; (with_reducible refine Calls.mono (HTM.out _ ?_) ?_); exact (HSr.out.gr0 GK5); rintro r w6 ⟨k2, l2, s2, b2, t2, a2, c2, rfl, r6, hr6, g6⟩; have HT6 := Lib.hid (And.intro r6 hr6); have GK6 : Gr [] wr w6 := GK5.next0 ⟨g6.os, g6.tape, g6.output, g6.size, g6.block⟩; have s6 := hc5 (HBr.out.gr0 GK6); clear g6; clear r6 hr6)
          | (go_at_call 18; (with_reducible refine Calls.mono (wakes16_any _) ?_); rintro r w5 ⟨rfl, g5⟩; have GK5 : Gr [] wr w5 := ⟨g5.os, g5.tape, g5.output, g5.size, g5.block⟩; have s5 := hc5 (HBr.out.gr0 GK5); clear g5)))
        have HF := Lib.hid (HGr.out.next0 GK11)
        clear GK5 GK6 GK7 GK8 GK9 GK10 GK11
        go_wp2_with fail
        go_ret
        exact ⟨rfl, HF.out⟩
theorem walk_InodeRight (v0 : Value) (a1 : Int) {w : World} (s0 : InoArg w v0) (w1 : (Lit.int .i64 a1).wf = true) :
    Calls Try.prog 3 #[v0, .int .i64 a1] w fun e w' => e = .returned (.bool true) ∧ Below w.heap.size w w' := by
  obtain ⟨k, l, s, vb, t, rfl, hk, _, hs, sb, ht⟩ := s0
  obtain ⟨bl, ao, cap, rfl, hsl⟩ := sl2_of sb
  exact (iright_law k l s bl t bl.length ao cap a1 w hsl ht hk hs.2 (bounds_i64 w1).2).mono fun _ _ q => ⟨q.1, q.2.below0⟩

end Go.Proofs.Ytpkhfdcokcchdab
