/-
  SparePlans.
-/
import Derived.Test.YtgifjnniohcacaaSpK
import Derived.Test.YtgifjnniohcacaaSpL
import Derived.Test.YtgifjnniohcacaaSpM
import Derived.Test.YtgifjnniohcacaaSpO
import Derived.Test.YtgifjnniohcacaaSpF
import Derived.Deep.CutBlock
namespace Go.Proofs.Ytgifjnniohcacaa
open Go.RowKit

set_option linter.unusedVariables false
theorem check_no2 {p : PlanZ} {n : Int} (h : okZ p = true) : checkZ p n ≠ 2 := by
  unfold checkZ; rw [if_pos h]; split <;> omega
theorem check_2 {p : PlanZ} {n : Int} (h : okZ p = false) : checkZ p n = 2 := by
  unfold checkZ; rw [h]; rfl
set_option maxRecDepth 100000 in
set_option maxHeartbeats 16000000 in
theorem plans_law (x0 x1 x2 n i : Int) (w : World) :
    Calls Try.prog 3 #[.agg #[.int .i64 x0, .int .i64 x1, .int .i64 x2], .int .i64 n, .int .i64 i] w fun e w' => e = .returned (.bool true) ∧ Gr [] w w' := by
  have HA := Holds.new w #[.int .i64 x0, .int .i64 x1, .int .i64 x2] 22
  have HG0 := Lib.hid ((Gr.refl [] w).alloc (Obj.cells #[.int .i64 x0, .int .i64 x1, .int .i64 x2] 22))
  have HSm := Lib.hid (fun W => small_any x0 x1 x2 W)
  obtain ⟨P1, hP1⟩ : ∃ P1, P1 = smallP x0 x1 x2 := ⟨_, rfl⟩
  rw [← hP1] at HSm
  clear hP1
  unfold planV at HSm
  go_enter Try.func3, Try.ntmps3
  go_upto_region 1 with fail
  generalize (w.alloc (Obj.cells #[.int .i64 x0, .int .i64 x1, .int .i64 x2] 22)) = w1 at *
  obtain ⟨xb, hxb⟩ : ∃ xb, w.heap.size = xb := ⟨_, rfl⟩
  rw [hxb] at HA ⊢
  clear hxb
  go_cut [33, 34, 35] (fun v nn ii wz => nn = .int .i64 2 ∧ ii = .int .i64 0 ∧ ∃ bb : Nat, v = .slice (some ⟨bb, 0, none⟩) 2 2 ∧ Holds wz bb #[.int .i64 x0, .int .i64 x1, .int .i64 x2, .int .i64 P1.a, .int .i64 P1.l, .int .i64 P1.s] 24 ∧ Gr [] w wz)
  case first =>
    have s0 := HA.three
    have HH := Lib.hid HA
    clear HA
    go_region_held3 (fun w' : World => w'.cell? ⟨xb, 0, none⟩ = some (.int .i64 x0) ∧ w'.cell? ⟨xb, 1, none⟩ = some (.int .i64 x1) ∧ w'.cell? ⟨xb, 2, none⟩ = some (.int .i64 x2)) (first | assumption | go_keep) ((go_at_call 7; (with_reducible refine Calls.mono (HSm.out _) ?_); rintro r w3 ⟨rfl, b3⟩; have G3 : Gr [] w1 w3 := ⟨b3.os, b3.tape, b3.output, b3.size, fun k hk _ => b3.block k hk⟩; have s3 := (HH.out.gr0 G3).three; clear b3))
    go_wp2_with fail
    go_meet
    have ga := (Gr.refl [] w3).alloc (Obj.cells #[.int .i64 x0, .int .i64 x1, .int .i64 x2, .int .i64 P1.a, .int .i64 P1.l, .int .i64 P1.s] 24)
    exact ⟨rfl, rfl, _, rfl, Holds.new _ _ _, (HG0.out.trans G3).next0 ga⟩
  case rest =>
    obtain ⟨rfl, rfl, bb, rfl, hrow, hg⟩ := hcut
    rename_i wc _
    have HW := Lib.hid (And.intro hrow hg)
    clear hrow hg HA HSm HG0
    go_wp2_with fail
    go_loopw [35] (fun k wr => ∃ j : Nat, j ≤ 2 ∧ k = .int .i64 j ∧ Gr [] wc wr) (fun k _ => 2 - (intOf k).toNat)
    case atStart => exact ⟨0, by omega, rfl, Gr.refl _ _⟩
    case round =>
      obtain ⟨j, hj, rfl, G⟩ := hrel
      by_cases hj2 : j < 2
      · have hj3 : (j : Int) < 2 := by omega
        obtain ⟨p, y0, y1, y2⟩ : ∃ p : PlanZ, wr.cell? ⟨bb, j * 3, none⟩ = some (.int .i64 p.a) ∧ wr.cell? ⟨bb, j * 3 + 1, none⟩ = some (.int .i64 p.l) ∧ wr.cell? ⟨bb, j * 3 + 2, none⟩ = some (.int .i64 p.s) := by
          have hh := HW.out.1.gr0 G
          by_cases c : j = 0
          · subst c
            exact ⟨⟨x0, x1, x2⟩, hh.cell 0, hh.cell 1, hh.cell 2⟩
          · obtain rfl : j = 1 := by omega
            exact ⟨P1, hh.cell 3, hh.cell 4, hh.cell 5⟩
        have gX := (Gr.refl [] wr).alloc (Obj.cells #[.int .i64 p.a, .int .i64 p.l, .int .i64 p.s] 24)
        have HX := Holds.new wr #[.int .i64 p.a, .int .i64 p.l, .int .i64 p.s] 24
        have HG := Lib.hid (G.next0 gX)
        clear gX G
        have HRC := Lib.hid (fun W => show Calls Try.prog 8 #[.agg #[.int .i64 p.a, .int .i64 p.l, .int .i64 p.s], .int .i64 n] W _ from rcheck_any p n W)
        have HR20 := Lib.hid (fun W => show Calls Try.prog 8 #[.agg #[.int .i64 p.a, .int .i64 p.l, .int .i64 p.s], .int .i64 20] W _ from rcheck_any p 20 W)
        have HPC := Lib.hid (fun W => show Calls Try.prog 10 #[.agg #[.int .i64 p.a, .int .i64 p.l, .int .i64 p.s], .int .i64 n] W _ from check_any p n W)
        have HPZ := Lib.hid (fun W => show Calls Try.prog 11 #[.agg #[.int .i64 p.a, .int .i64 p.l, .int .i64 p.s]] W _ from size_any p W)
        have HON := Lib.hid (fun W => show Calls Try.prog 13 #[.pointer none, .agg #[.int .i64 p.a, .int .i64 p.l, .int .i64 p.s]] W _ from open_nil p W)
        have HFN := Lib.hid (fun W => show Calls Try.prog 14 #[.pointer none, .agg #[.int .i64 p.a, .int .i64 p.l, .int .i64 p.s]] W _ from format_nil p W)
        obtain ⟨cN, hcN⟩ : ∃ cN, cN = checkZ p n := ⟨_, rfl⟩
        rw [← hcN] at HRC HPC
        obtain ⟨sz, hsz⟩ : ∃ sz, sz = sizeZ p := ⟨_, rfl⟩
        rw [← hsz] at HPZ
        obtain ⟨c20, hc20⟩ : ∃ c20, c20 = checkZ p 20 := ⟨_, rfl⟩
        rw [← hc20] at HR20
        have HE := Lib.hid (fun (a : DevA) W (hW : DevIs W a (newD 20)) (h0 : c20 ≠ 0) => show Calls Try.prog 13 #[.pointer (some ⟨a.bd, 0, none⟩), .agg #[.int .i64 p.a, .int .i64 p.l, .int .i64 p.s]] W fun e w' => e = .returned (.tuple #[.pointer none, .int .i64 c20]) ∧ Gr [] W w' by
          have q := open_err (p := p) hW (by show checkZ p 20 ≠ 0; rw [← hc20]; exact h0)
          rw [show checkZ p ((newD 20).n : Int) = c20 from hc20.symm] at q
          exact q)
        have HFE := Lib.hid (fun (a : DevA) W (hW : DevIs W a (newD 20)) (h0 : c20 ≠ 0) => show Calls Try.prog 14 #[.pointer (some ⟨a.bd, 0, none⟩), .agg #[.int .i64 p.a, .int .i64 p.l, .int .i64 p.s]] W fun e w' => e = .returned (.int .i64 c20) ∧ Gr [] W w' by
          have q := format_err (p := p) hW (by show checkZ p 20 ≠ 0; rw [← hc20]; exact h0)
          rw [show checkZ p ((newD 20).n : Int) = c20 from hc20.symm] at q
          exact q)
        have HEQ := Lib.hid (And.intro hcN (And.intro hsz hc20))
        clear hcN hsz hc20
        go_wp2_with fail
        generalize wr.alloc (Obj.cells #[.int .i64 p.a, .int .i64 p.l, .int .i64 p.s] 24) = wx at *
        obtain ⟨bx, hbx⟩ : ∃ bx, wr.heap.size = bx := ⟨_, rfl⟩
        rw [hbx] at HX ⊢
        clear hbx
        have HX := Lib.hid HX
        refine (HRC.out _).mono ?_
        rintro e w2 ⟨rfl, b2⟩
        have hx2 := HX.out.gr0 (Gr.ofBelow b2)
        have x0' := hx2.cell 0
        have x1' := hx2.cell 1
        have x2' := hx2.cell 2
        have HG2 := Lib.hid (HG.out.nextB b2)
        have gY := (Gr.refl [] w2).alloc (Obj.cells #[.int .i64 p.a, .int .i64 p.l, .int .i64 p.s] 28)
        have HY := Holds.new w2 #[.int .i64 p.a, .int .i64 p.l, .int .i64 p.s] 28
        have H3 := Lib.hid (And.intro (hx2.gr0 gY) (HG2.out.next0 gY))
        clear b2 gY hx2 y0 y1 y2 HX HG HG2
        go_upto_region 6 with fail
        generalize w2.alloc (Obj.cells #[.int .i64 p.a, .int .i64 p.l, .int .i64 p.s] 28) = w3 at *
        obtain ⟨b7, hb7⟩ : ∃ b7, w2.heap.size = b7 := ⟨_, rfl⟩
        rw [hb7] at HY ⊢
        clear hb7 x0' x1' x2'
        have H3 := Lib.hid (And.intro H3.out.1 (And.intro HY H3.out.2))
        clear HY
        have x0' := H3.out.1.cell 0
        have x1' := H3.out.1.cell 1
        have x2' := H3.out.1.cell 2
        have z0' := H3.out.2.1.cell 0
        have z1' := H3.out.2.1.cell 1
        have z2' := H3.out.2.1.cell 2
        cases hok : okZ p with
        | true =>
          obtain ⟨hcN, hsz, hc20⟩ := HEQ.out
          have b2 : (cN != 2) = true := by have := check_no2 (n := n) hok; rw [← hcN] at this; simpa using this
          have HRS := Lib.hid (fun W => show Calls Try.prog 9 #[.agg #[.int .i64 p.a, .int .i64 p.l, .int .i64 p.s]] W _ from rsize_any p hok W)
          rw [← hsz] at HRS
          clear hcN hsz hc20 hok HEQ
          go_wp2_with fail
          refine (HRS.out _).mono ?_
          rintro e w4 ⟨rfl, b4⟩
          have g4 := Gr.ofBelow (cs := []) b4
          have H4 := Lib.hid (And.intro (H3.out.1.gr0 g4) (And.intro (H3.out.2.1.gr0 g4) (H3.out.2.2.trans g4)))
          clear x0' x1' x2' z0' z1' z2' g4 H3 b4
          have x0' := H4.out.1.cell 0
          have x1' := H4.out.1.cell 1
          have x2' := H4.out.1.cell 2
          have z0' := H4.out.2.1.cell 0
          have z1' := H4.out.2.1.cell 1
          have z2' := H4.out.2.1.cell 2
          go_wp2_with fail
          refine (HPC.out _).mono ?_
          rintro e w5 ⟨rfl, b5⟩
          have g5 := Gr.ofBelow (cs := []) b5
          have H5 := Lib.hid (And.intro (H4.out.1.gr0 g5) (And.intro (H4.out.2.1.gr0 g5) (H4.out.2.2.trans g5)))
          clear x0' x1' x2' z0' z1' z2' g5 H4 b5
          have x0' := H5.out.1.cell 0
          have x1' := H5.out.1.cell 1
          have x2' := H5.out.1.cell 2
          have z0' := H5.out.2.1.cell 0
          have z1' := H5.out.2.1.cell 1
          have z2' := H5.out.2.1.cell 2
          go_wp2_with fail
          refine (HPZ.out _).mono ?_
          rintro e w6 ⟨rfl, b6⟩
          have g6 := Gr.ofBelow (cs := []) b6
          have H6 := Lib.hid (And.intro (H5.out.1.gr0 g6) (And.intro (H5.out.2.1.gr0 g6) (H5.out.2.2.trans g6)))
          clear x0' x1' x2' z0' z1' z2' g6 H5 b6
          have x0' := H6.out.1.cell 0
          have x1' := H6.out.1.cell 1
          have x2' := H6.out.1.cell 2
          have z0' := H6.out.2.1.cell 0
          have z1' := H6.out.2.1.cell 1
          have z2' := H6.out.2.1.cell 2
          go_wp2_with fail
          refine (pmnew_yes 20 _ (by omega) (by omega)).mono ?_
          rintro e w7 ⟨a, rfl, d7, _, g7⟩
          have HD := Lib.hid d7
          have H7 := Lib.hid (And.intro (H6.out.1.gr0 g7) (And.intro (H6.out.2.1.gr0 g7) (H6.out.2.2.trans g7)))
          clear x0' x1' x2' z0' z1' z2' d7 g7 H6
          have x0' := H7.out.1.cell 0
          have x1' := H7.out.1.cell 1
          have x2' := H7.out.1.cell 2
          have z0' := H7.out.2.1.cell 0
          have z1' := H7.out.2.1.cell 1
          have z2' := H7.out.2.1.cell 2
          go_wp2_with fail
          refine (HR20.out _).mono ?_
          rintro e w8 ⟨rfl, b8⟩
          have g8 := Gr.ofBelow (cs := []) b8
          have HD := Lib.hid (HD.out.gr0 g8)
          have H8 := Lib.hid (And.intro (H7.out.1.gr0 g8) (And.intro (H7.out.2.1.gr0 g8) (H7.out.2.2.trans g8)))
          clear x0' x1' x2' z0' z1' z2' g8 H7 b8
          have x0' := H8.out.1.cell 0
          have x1' := H8.out.1.cell 1
          have x2' := H8.out.1.cell 2
          have z0' := H8.out.2.1.cell 0
          have z1' := H8.out.2.1.cell 1
          have z2' := H8.out.2.1.cell 2
          by_cases hc0 : c20 = 0
          · subst hc0
            go_wp2_with fail
            refine (HON.out _).mono ?_
            rintro e w9 ⟨rfl, g9⟩
            have H9 := Lib.hid (And.intro (H8.out.1.gr0 g9) (And.intro (H8.out.2.1.gr0 g9) (H8.out.2.2.trans g9)))
            clear x0' x1' x2' z0' z1' z2' g9 H8
            have x0' := H9.out.1.cell 0
            have x1' := H9.out.1.cell 1
            have x2' := H9.out.1.cell 2
            have z0' := H9.out.2.1.cell 0
            have z1' := H9.out.2.1.cell 1
            have z2' := H9.out.2.1.cell 2
            go_wp2_with fail
            refine (HFN.out _).mono ?_
            rintro e w10 ⟨rfl, g10⟩
            have H10 := Lib.hid (And.intro (H9.out.1.gr0 g10) (And.intro (H9.out.2.1.gr0 g10) (H9.out.2.2.trans g10)))
            clear x0' x1' x2' z0' z1' z2' g10 H9
            have x0' := H10.out.1.cell 0
            have x1' := H10.out.1.cell 1
            have x2' := H10.out.1.cell 2
            have z0' := H10.out.2.1.cell 0
            have z1' := H10.out.2.1.cell 1
            have z2' := H10.out.2.1.cell 2
            go_wp2_with fail
            go_roundw
            case rel => exact ⟨j + 1, by omega, by go_num, H10.out.2.2⟩
            case measure => simp [intOf]; omega
          · have b20 : (c20 != 0) = true := by simpa using hc0
            have HN0 := Lib.hid hc0
            clear hc0
            go_wp2_with fail
            refine (HE.out a _ HD.out HN0.out).mono ?_
            rintro e w9 ⟨rfl, g9⟩
            have HD := Lib.hid (HD.out.gr0 g9)
            have H9 := Lib.hid (And.intro (H8.out.1.gr0 g9) (And.intro (H8.out.2.1.gr0 g9) (H8.out.2.2.trans g9)))
            clear x0' x1' x2' z0' z1' z2' g9 H8
            have x0' := H9.out.1.cell 0
            have x1' := H9.out.1.cell 1
            have x2' := H9.out.1.cell 2
            have z0' := H9.out.2.1.cell 0
            have z1' := H9.out.2.1.cell 1
            have z2' := H9.out.2.1.cell 2
            go_wp2_with fail
            refine (HFE.out a _ HD.out HN0.out).mono ?_
            rintro e w10 ⟨rfl, g10⟩
            have HD := Lib.hid (HD.out.gr0 g10)
            have H10 := Lib.hid (And.intro (H9.out.1.gr0 g10) (And.intro (H9.out.2.1.gr0 g10) (H9.out.2.2.trans g10)))
            clear x0' x1' x2' z0' z1' z2' g10 H9
            have x0' := H10.out.1.cell 0
            have x1' := H10.out.1.cell 1
            have x2' := H10.out.1.cell 2
            have z0' := H10.out.2.1.cell 0
            have z1' := H10.out.2.1.cell 1
            have z2' := H10.out.2.1.cell 2
            go_wp2_with fail
            refine (HON.out _).mono ?_
            rintro e w11 ⟨rfl, g11⟩
            have H11 := Lib.hid (And.intro (H10.out.1.gr0 g11) (And.intro (H10.out.2.1.gr0 g11) (H10.out.2.2.trans g11)))
            clear x0' x1' x2' z0' z1' z2' g11 H10
            have x0' := H11.out.1.cell 0
            have x1' := H11.out.1.cell 1
            have x2' := H11.out.1.cell 2
            have z0' := H11.out.2.1.cell 0
            have z1' := H11.out.2.1.cell 1
            have z2' := H11.out.2.1.cell 2
            go_wp2_with fail
            refine (HFN.out _).mono ?_
            rintro e w12 ⟨rfl, g12⟩
            have H12 := Lib.hid (And.intro (H11.out.1.gr0 g12) (And.intro (H11.out.2.1.gr0 g12) (H11.out.2.2.trans g12)))
            clear x0' x1' x2' z0' z1' z2' g12 H11
            have x0' := H12.out.1.cell 0
            have x1' := H12.out.1.cell 1
            have x2' := H12.out.1.cell 2
            have z0' := H12.out.2.1.cell 0
            have z1' := H12.out.2.1.cell 1
            have z2' := H12.out.2.1.cell 2
            go_wp2_with fail
            go_roundw
            case rel => exact ⟨j + 1, by omega, by go_num, H12.out.2.2⟩
            case measure => simp [intOf]; omega
        | false =>
          obtain ⟨hcN, hsz, hc20⟩ := HEQ.out
          obtain rfl : cN = 2 := by rw [hcN]; exact check_2 hok
          obtain rfl : sz = 0 := by rw [hsz]; unfold sizeZ; rw [hok]; rfl
          obtain rfl : c20 = 2 := by rw [hc20]; exact check_2 hok
          clear hcN hsz hc20 hok HEQ
          have HN0 := Lib.hid (show (2 : Int) ≠ 0 by omega)
          go_wp2_with fail
          refine (HPC.out _).mono ?_
          rintro e w4 ⟨rfl, b4⟩
          have g4 := Gr.ofBelow (cs := []) b4
          have H4 := Lib.hid (And.intro (H3.out.1.gr0 g4) (And.intro (H3.out.2.1.gr0 g4) (H3.out.2.2.trans g4)))
          clear x0' x1' x2' z0' z1' z2' g4 H3 b4
          have x0' := H4.out.1.cell 0
          have x1' := H4.out.1.cell 1
          have x2' := H4.out.1.cell 2
          have z0' := H4.out.2.1.cell 0
          have z1' := H4.out.2.1.cell 1
          have z2' := H4.out.2.1.cell 2
          go_wp2_with fail
          refine (HPZ.out _).mono ?_
          rintro e w5 ⟨rfl, b5⟩
          have g5 := Gr.ofBelow (cs := []) b5
          have H5 := Lib.hid (And.intro (H4.out.1.gr0 g5) (And.intro (H4.out.2.1.gr0 g5) (H4.out.2.2.trans g5)))
          clear x0' x1' x2' z0' z1' z2' g5 H4 b5
          have x0' := H5.out.1.cell 0
          have x1' := H5.out.1.cell 1
          have x2' := H5.out.1.cell 2
          have z0' := H5.out.2.1.cell 0
          have z1' := H5.out.2.1.cell 1
          have z2' := H5.out.2.1.cell 2
          go_wp2_with fail
          refine (pmnew_yes 20 _ (by omega) (by omega)).mono ?_
          rintro e w6 ⟨a, rfl, d6, _, g6⟩
          have HD := Lib.hid d6
          have H6 := Lib.hid (And.intro (H5.out.1.gr0 g6) (And.intro (H5.out.2.1.gr0 g6) (H5.out.2.2.trans g6)))
          clear x0' x1' x2' z0' z1' z2' d6 g6 H5
          have x0' := H6.out.1.cell 0
          have x1' := H6.out.1.cell 1
          have x2' := H6.out.1.cell 2
          have z0' := H6.out.2.1.cell 0
          have z1' := H6.out.2.1.cell 1
          have z2' := H6.out.2.1.cell 2
          go_wp2_with fail
          refine (HR20.out _).mono ?_
          rintro e w7 ⟨rfl, b7⟩
          have g7 := Gr.ofBelow (cs := []) b7
          have HD := Lib.hid (HD.out.gr0 g7)
          have H7 := Lib.hid (And.intro (H6.out.1.gr0 g7) (And.intro (H6.out.2.1.gr0 g7) (H6.out.2.2.trans g7)))
          clear x0' x1' x2' z0' z1' z2' g7 H6 b7
          have x0' := H7.out.1.cell 0
          have x1' := H7.out.1.cell 1
          have x2' := H7.out.1.cell 2
          have z0' := H7.out.2.1.cell 0
          have z1' := H7.out.2.1.cell 1
          have z2' := H7.out.2.1.cell 2
          go_wp2_with fail
          refine (HE.out a _ HD.out HN0.out).mono ?_
          rintro e w8 ⟨rfl, g8⟩
          have HD := Lib.hid (HD.out.gr0 g8)
          have H8 := Lib.hid (And.intro (H7.out.1.gr0 g8) (And.intro (H7.out.2.1.gr0 g8) (H7.out.2.2.trans g8)))
          clear x0' x1' x2' z0' z1' z2' g8 H7
          have x0' := H8.out.1.cell 0
          have x1' := H8.out.1.cell 1
          have x2' := H8.out.1.cell 2
          have z0' := H8.out.2.1.cell 0
          have z1' := H8.out.2.1.cell 1
          have z2' := H8.out.2.1.cell 2
          go_wp2_with fail
          refine (HFE.out a _ HD.out HN0.out).mono ?_
          rintro e w9 ⟨rfl, g9⟩
          have HD := Lib.hid (HD.out.gr0 g9)
          have H9 := Lib.hid (And.intro (H8.out.1.gr0 g9) (And.intro (H8.out.2.1.gr0 g9) (H8.out.2.2.trans g9)))
          clear x0' x1' x2' z0' z1' z2' g9 H8
          have x0' := H9.out.1.cell 0
          have x1' := H9.out.1.cell 1
          have x2' := H9.out.1.cell 2
          have z0' := H9.out.2.1.cell 0
          have z1' := H9.out.2.1.cell 1
          have z2' := H9.out.2.1.cell 2
          go_wp2_with fail
          refine (HON.out _).mono ?_
          rintro e w10 ⟨rfl, g10⟩
          have H10 := Lib.hid (And.intro (H9.out.1.gr0 g10) (And.intro (H9.out.2.1.gr0 g10) (H9.out.2.2.trans g10)))
          clear x0' x1' x2' z0' z1' z2' g10 H9
          have x0' := H10.out.1.cell 0
          have x1' := H10.out.1.cell 1
          have x2' := H10.out.1.cell 2
          have z0' := H10.out.2.1.cell 0
          have z1' := H10.out.2.1.cell 1
          have z2' := H10.out.2.1.cell 2
          go_wp2_with fail
          refine (HFN.out _).mono ?_
          rintro e w11 ⟨rfl, g11⟩
          have H11 := Lib.hid (And.intro (H10.out.1.gr0 g11) (And.intro (H10.out.2.1.gr0 g11) (H10.out.2.2.trans g11)))
          clear x0' x1' x2' z0' z1' z2' g11 H10
          have x0' := H11.out.1.cell 0
          have x1' := H11.out.1.cell 1
          have x2' := H11.out.1.cell 2
          have z0' := H11.out.2.1.cell 0
          have z1' := H11.out.2.1.cell 1
          have z2' := H11.out.2.1.cell 2
          go_wp2_with fail
          go_roundw
          case rel => exact ⟨j + 1, by omega, by go_num, H11.out.2.2⟩
          case measure => simp [intOf]; omega
      · obtain rfl : j = 2 := by omega
        have HGf := Lib.hid (HW.out.2.trans G)
        clear G
        go_wp2_with fail
        refine (bk_nil_where i _).mono ?_
        rintro e w4 ⟨rfl, rfl⟩
        go_wp2_with fail
        refine (bk_nil_read i _).mono ?_
        rintro e w5 ⟨rfl, rfl⟩
        go_wp2_with fail
        refine (wakes05 _).mono ?_
        rintro e w6 ⟨rfl, g6⟩
        have HGg := Lib.hid (HGf.out.trans g6)
        clear g6 HGf
        go_wp2_with fail
        refine (bwrite_nil i ⟨#[]⟩ _).mono ?_
        rintro e w7 ⟨rfl, rfl⟩
        go_wp2_with fail
        refine (bww_nil i 9 1 _).mono ?_
        rintro e w8 ⟨rfl, rfl⟩
        go_wp2_with fail
        refine (bk_nil_lines _).mono ?_
        rintro e w9 ⟨rfl, rfl⟩
        go_wp2_with fail
        refine (bk_nil_left _).mono ?_
        rintro e w10 ⟨rfl, rfl⟩
        go_wp2_with fail
        go_ret
        exact ⟨rfl, HGg.out⟩
theorem walk_SparePlans (a0 : List Int) (a1 a2 : Int) (l0 : a0.length = 3) (w0 : ∀ x ∈ a0, (Lit.int .i64 x).wf = true) (w1 : (Lit.int .i64 a1).wf = true) (w2 : (Lit.int .i64 a2).wf = true) (w : World) :
    Calls Try.prog 3 #[.agg (a0.map (Value.int .i64)).toArray, .int .i64 a1, .int .i64 a2] w fun e w' => e = .returned (.bool true) ∧ Below w.heap.size w w' := by
  match a0, l0 with
  | [x, y, z], _ => exact (plans_law x y z a1 a2 w).mono fun _ _ q => ⟨q.1, q.2.below0⟩
end Go.Proofs.Ytgifjnniohcacaa
