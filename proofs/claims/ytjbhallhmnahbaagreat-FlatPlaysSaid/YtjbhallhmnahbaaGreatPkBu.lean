/-
  PkBu: FpG, FpH, FmA.
-/
import Derived.Test.YtjbhallhmnahbaaGreatPkAx
import Derived.Test.YtjbhallhmnahbaaGreatPkBp
import Derived.Test.YtjbhallhmnahbaaGreatPkBt
import Derived.Test.YtjbhallhmnahbaaGreatPkBc
import Derived.Test.YtjbhallhmnahbaaGreatPkBo
import Derived.Test.YtjbhallhmnahbaaGreatPkBf
import Derived.Test.YtjbhallhmnahbaaGreatPkAt

set_option linter.unusedVariables false

/-
  FlatPlays: the document's Format of any calm device.
-/
namespace Go.Proofs.YtjbhallhmnahbaaGreat
open Go.RowKit
set_option linter.unusedVariables false

section
variable {w : World} {r : RefA} {D : DevS} {p : PlanZ} {c : Nat}
set_option maxRecDepth 100000 in
set_option maxHeartbeats 8000000 in
theorem rformat9 (h : RefIs w r D) (hz : Calm D) (hB : Fu D c) (hc : c < 400000) (hp : checkZ p (D.n : Int) = 0) :
    Calls Tryz.prog 101 #[.pointer (some ⟨r.rd, 0, none⟩), planV p] w fun e w' => e = .returned (.int .i64 0) ∧ (∃ E, fmtZ p (tabZ p + p.l).toNat 0 D = (0, E) ∧ RefIs w' r E ∧ Calm E ∧ E.n = D.n ∧ Fu E (c + 10 * (tabZ p + p.l).toNat)) ∧ Gr r.all w w' := by
  obtain ⟨hok, hsz⟩ := check_ok hp
  obtain ⟨h1, h2, h3, h4, h5, h6⟩ := (okZ_iff p).1 hok
  have ht : 0 ≤ tabZ p ∧ tabZ p ≤ 8 := by unfold tabZ; omega
  have hs : sizeZ p = tabZ p + p.l + p.s := by unfold sizeZ; rw [if_pos hok]
  obtain ⟨L, hL⟩ : ∃ L : Nat, tabZ p + p.l = (L : Int) := ⟨(tabZ p + p.l).toNat, by omega⟩
  rw [hL, Int.toNat_natCast]
  have hLn : p.a + (L : Int) ≤ (D.n : Int) := by omega
  have hL2 : L ≤ 1034 := by omega
  have hnI : D.n ≤ 8192 := h.hi
  obtain ⟨c0, c1, c2⟩ := rplan_cells p w
  have HG := Lib.hid ((Gr.refl [] w).alloc (Obj.cells #[.int .i64 p.a, .int .i64 p.l, .int .i64 p.s] 138))
  obtain ⟨w1, hw1⟩ : ∃ w1, w1 = w.alloc (Obj.cells #[.int .i64 p.a, .int .i64 p.l, .int .i64 p.s] 138) := ⟨_, rfl⟩
  obtain ⟨pb, hpb⟩ : ∃ pb, pb = w.heap.size := ⟨_, rfl⟩
  rw [← hpb] at c0 c1 c2
  have HNP := Lib.hid (show pb ∉ r.all from fun q => by have := h.lt _ q; omega)
  have HC := Lib.hid (fun W => show Calls Tryz.prog 137 #[.agg #[.int .i64 p.a, .int .i64 p.l, .int .i64 p.s], .int .i64 (D.n : Int)] W _ from rcheck_any p (D.n : Int) W)
  have HT := Lib.hid (fun W => show Calls Tryz.prog 130 #[.agg #[.int .i64 p.a, .int .i64 p.l, .int .i64 p.s]] W _ from rtable_any p hok W)
  rw [hp] at HC
  obtain ⟨t, htt⟩ : ∃ t, t = tabZ p := ⟨_, rfl⟩
  rw [← htt] at HT hL ht
  have i1 : IntKind.i64.wrap (t + p.l) = t + p.l := IntWalk.i64_in _ (by omega)
  have HD := Lib.hid h
  have HF := Lib.hid (And.intro hz (And.intro hB (And.intro hLn h1)))
  have HL := Lib.hid hL
  have HA := Lib.hid h2
  clear h hp hz hB htt hok hsz hs h1 h2 h3 h4 h5 h6 ht hL hLn
  unfold planV
  go_enter Tryz.func101, Tryz.ntmps101
  go_wp2_with fail
  rw [← hw1] at c0 c1 c2 HG ⊢
  rw [← hpb]
  clear hw1 hpb
  have HD1 := Lib.hid (HD.out.gr0 HG.out)
  have d1 := HD1.out.c1
  have k0 := kp_cell c0
  have k1 := kp_cell c1
  have k2 := kp_cell c2
  have k3 := kp_cell d1
  have hne := kp_ne w1
  refine wp_region_kp (by kernel_rfl) (by kernel_rfl) ?_
  repeat (go_big_quiet_step ((rename_i x; exact kp_call x (HC.out _))))
  with_reducible refine wpQuiet_nil ?_
  rintro _ ⟨y, rfl⟩
  have HG2 := Lib.hid (HG.out.nextB y.h)
  have HD2 := Lib.hid (HD1.out.gr0 (Gr.ofBelow y.h))
  replace c0 := k0 y
  replace c1 := k1 y
  replace c2 := k2 y
  clear k0 k1 k2 k3 d1 hne HD1 HG HC
  generalize y.w = w2 at *
  clear y
  have hlt : pb < w2.heap.size := World.block_lt_of_cell? w2 _ c0
  have hmk := zero_make w2
  have hcv := zero_conv w2
  have ga := (Gr.refl [] w2).alloc (Obj.cells (rowOf (fun _ => .int .u8 0) 64) 5)
  have HG3 := Lib.hid (HG2.out.trans ga)
  have HD3 := Lib.hid (HD2.out.gr0 ga)
  have e0 := (ga.cell0 (o := 0) hlt).trans c0
  have e1 := (ga.cell0 (o := 1) hlt).trans c1
  have e2 := (ga.cell0 (o := 2) hlt).trans c2
  obtain ⟨Z, hZ⟩ : ∃ Z, Z = zeroT := ⟨_, rfl⟩
  have HZ := Lib.hid hZ
  rw [← hZ] at hcv
  clear hZ
  clear ga hlt c0 c1 c2 HG2 HD2
  generalize hrow : rowOf (fun _ => Value.int .u8 0) 64 = R at *
  clear hrow
  go_wp2_with fail
  generalize (w2.alloc (Obj.cells R 5)) = w3 at *
  refine (HT.out _).mono ?_
  rintro e w4 ⟨rfl, b4⟩
  have g4 := Gr.ofBelow (cs := []) b4
  have hlt : pb < w3.heap.size := World.block_lt_of_cell? w3 _ e0
  have f0 := (g4.cell0 (o := 0) hlt).trans e0
  have f1 := (g4.cell0 (o := 1) hlt).trans e1
  have HG4 := Lib.hid (HG3.out.trans g4)
  have HD4 := Lib.hid (HD3.out.gr0 g4)
  clear b4 g4 hlt e0 e1 e2 HG3 HD3 hmk hcv
  go_wp2_with fail
  go_loopw [5, 8] (fun e k wr => ∃ (j : Nat) (Dj : DevS), j ≤ L ∧ e = .int .i64 0 ∧ k = .int .i64 j ∧ (RefIs wr r Dj ∧ Calm Dj ∧ Dj.n = D.n ∧ Fu Dj (c + 10 * j) ∧ fmtZ p (L - j) j Dj = fmtZ p L 0 D) ∧ wr.cell? ⟨pb, 0, none⟩ = some (.int .i64 p.a) ∧ wr.cell? ⟨pb, 1, none⟩ = some (.int .i64 p.l) ∧ Gr r.all w wr) (fun _ k _ => L - (intOf k).toNat)
  case atStart => exact ⟨0, D, by omega, rfl, rfl, ⟨HD4.out, HF.out.1, rfl, HF.out.2.1, rfl⟩, f0, f1, HG4.out.of0⟩
  case round =>
    obtain ⟨j, Dj, hj, rfl, rfl, ⟨hd', hcl', hn', hfu', hfz'⟩, c0', c1', g'⟩ := hrel
    have HJ := Lib.hid (And.intro hcl' (And.intro hn' (And.intro hfu' hfz')))
    have HH := Lib.hid (And.intro hd' (And.intro g' (And.intro c0' c1')))
    clear hd' g' f0 f1 hcl' hn' hfu' hfz'
    by_cases hjL : j < L
    · have ij : (j : Int) < t + p.l := by have := HL.out; omega
      have i2 : IntKind.i64.wrap (p.a + (j : Int)) = p.a + (j : Int) := IntWalk.i64_in _ (by have := HA.out; have := HF.out.2.2.2; omega)
      obtain ⟨ln, hln⟩ : ∃ ln : Nat, (ln : Int) = p.a + (j : Int) := ⟨(p.a + (j : Int)).toNat, by have := HF.out.2.2.2; omega⟩
      obtain ⟨E1, e1, s1⟩ := put_calm (l := ln) HJ.out.1 (by rw [HJ.out.2.1]; have := HF.out.2.2.1; omega) zeroT_size
      rw [hln] at e1
      have hfz1 : fmtZ p (L - (j + 1)) (j + 1) E1 = fmtZ p L 0 D := by
        rw [← HJ.out.2.2.2, show L - j = (L - (j + 1)) + 1 by omega]
        conv => rhs; rw [fmtZ]
        rw [e1, if_neg (by simp)]
      have hfu1 : Fu E1 (c + 10 * (j + 1)) := by
        have := put_fu HJ.out.2.2.1 (p.a + (j : Int)) zeroT
        rw [e1] at this
        exact this.mono (by omega)
      have HP := Lib.hid (rput4_any r Dj (p.a + (j : Int)) Z (c + 10 * j) wr HH.out.1 HJ.out.2.2.1 (by omega) (by rw [HZ.out, zeroT_size]; unfold maxLen; omega))
      rw [HZ.out, e1, ← HZ.out] at HP
      have HE := Lib.hid (And.intro s1.calm (And.intro (s1.n.trans HJ.out.2.1) (And.intro hfu1 hfz1)))
      clear s1 hfz1 hfu1 hln e1
      go_wp2_with fail
      refine HP.out.mono ?_
      rintro e w5 ⟨rfl, hd5, g5⟩
      have hlt : pb < wr.heap.size := World.block_lt_of_cell? wr _ c0'
      have H5 := Lib.hid (And.intro hd5 (And.intro ((World.cell?_of_block (w := wr) (g5.block pb hlt HNP.out)).trans c0') (And.intro ((World.cell?_of_block (w := wr) (g5.block pb hlt HNP.out)).trans c1') (HH.out.2.1.trans g5))))
      clear hd5 g5 hlt
      go_wp2_with fail
      go_roundw
      case rel => exact ⟨j + 1, E1, by omega, rfl, by go_num, ⟨H5.out.1, HE.out.1, HE.out.2.1, HE.out.2.2.1, HE.out.2.2.2⟩, H5.out.2.1, H5.out.2.2.1, H5.out.2.2.2⟩
      case measure => simp [intOf]; omega
    · obtain rfl : j = L := by omega
      have ij : ¬ ((j : Int) < t + p.l) := by have := HL.out; omega
      go_wp2_with fail
      go_ret
      refine ⟨rfl, ⟨Dj, ?_, HH.out.1, HJ.out.1, HJ.out.2.1, HJ.out.2.2.1⟩, HH.out.2.1⟩
      rw [← HJ.out.2.2.2, Nat.sub_self]
      rfl
end
end Go.Proofs.YtjbhallhmnahbaaGreat

/-
  FlatPlays: the document's Format of a region of any calm device.
-/
namespace Go.Proofs.YtjbhallhmnahbaaGreat
open Go.RowKit
set_option linter.unusedVariables false

section
set_option maxRecDepth 100000 in
set_option maxHeartbeats 8000000 in
theorem rformat79 {c : Nat} {D : DevS} {w : World} {r : RefA} {P : PlanR} (hP : OkR P) (h : RefIs w r D) (hc : Calm D) (hbad : D.bad = fun _ => false) (hmb : MB D) (hfit : (bankR P).a + sizeZ (bankR P) ≤ (D.n : Int)) (hfu : Fu D c) (hcc : c < 300000) :
    Calls Tryz.prog 51 #[.pointer (some ⟨r.rd, 0, none⟩), planRV P] w fun e w' => e = .returned (.int .i64 0) ∧ (RefIs w' r (rfmtZ P D).2 ∧ Fu (rfmtZ P D).2 (c + 12000)) ∧ Gr r.all w w' := by
  obtain ⟨q1, q2, q3, q4, q5, q6⟩ := rg_nums hP
  have ha : (bankR P).a = P.a := rfl
  have hbl : (bankR P).l = (P.l : Int) + 2 := rfl
  have hpl2 := hP.l2
  have hck : checkZ (bankR P) (D.n : Int) = 0 := by
    unfold checkZ
    rw [if_pos hP.ok, if_neg (by omega)]
  have ht8 : tabZ (bankR P) ≤ 8 := by show (P.s + 7) / 8 ≤ 8; omega
  obtain ⟨L, hL⟩ : ∃ L : Nat, L = (tabZ (bankR P) + (bankR P).l).toNat := ⟨_, rfl⟩
  have hLb : L ≤ 1040 := by omega
  have hlive : Live D := ⟨hc.off, hc.buf⟩
  obtain ⟨F, f1, f2, f3, f4, f5⟩ : ∃ F, fmtZ (bankR P) L 0 D = (0, F) ∧ Calm F ∧ F.n = D.n ∧ F.bad = D.bad ∧ ∀ x : Nat, F.med x = if 8 * ((bankR P).a + ((0 : Nat) : Int)) ≤ (x : Int) ∧ (x : Int) < 8 * ((bankR P).a + ((0 : Nat) : Int) + (L : Int)) then 0 else D.med x := by
    obtain ⟨E, e1, e2⟩ := fmt_calm (p := bankR P) (by omega) L 0 D hc (by omega)
    rcases fmt_last (p := bankR P) (by omega) L 0 D hlive hbad (by omega) with ⟨F, f1, f2, f3, f4, f5⟩ | ⟨F, f1, _⟩
    · rw [e1] at f1
      cases f1
      exact ⟨E, e1, e2, f3, f4, f5⟩
    · rw [e1] at f1
      cases f1
  have ft : ∀ k : Nat, (k : Int) < P.s → F.med (8 * P.a.toNat + k) = 0 := fun k hk => by
    rw [f5, if_pos (by omega)]
  have hTI : TI (bankR P) (bare F) B0 := TI.fresh hP.ok (by rw [f3]; exact hfit) (by rw [f4, hbad]) ft
  have hMB : MB F := fun x => by
    rw [f5]
    split
    · omega
    · exact hmb x
  have HFm := Lib.hid (fun W (q : RefIs W r D) => show Calls Tryz.prog 101 #[.pointer (some ⟨r.rd, 0, none⟩), .agg #[.int .i64 P.a, .int .i64 ((P.l : Int) + 2), .int .i64 P.s]] W (fun e w' => e = .returned (.int .i64 0) ∧ (RefIs w' r F ∧ Fu F (c + 10 * L)) ∧ Gr r.all W w') from (rformat9 (p := bankR P) (c := c) q hc hfu (by omega) hck).mono fun e w' h => by
    obtain ⟨h1, ⟨E, e1, e2, e3, e4, e5⟩, h3⟩ := h
    rw [← hL] at e1 e5
    rw [f1] at e1
    cases e1
    exact ⟨h1, ⟨e2, e5⟩, h3⟩)
  obtain ⟨p1, p2⟩ := pkN_val hP 0 (by omega)
  obtain ⟨s0, g0⟩ := pkN_zero hP
  rw [s0, g0] at p1
  obtain ⟨X, hX⟩ : ∃ X, X = writeWordS (bankR P) ((P.l : Int) + 1) 0 (pkN P 0) F B0 := ⟨_, rfl⟩
  have hR : rfmtZ P D = (X.1, X.2.1) := by
    unfold rfmtZ
    rw [← hL, f1, if_neg (by simp), hX]
    rfl
  have hX0 : X.1 = 0 := by
    obtain ⟨_, _, m3⟩ := rfmt_last hP hlive hbad hfit
    have := (m3 hc).1
    rw [hR] at this
    exact this
  rw [hR]
  obtain ⟨x0, E, B2⟩ := X
  simp only at hX0 ⊢
  subst hX0
  have HWw := Lib.hid (fun W (q : RefIs W r F) (fu : Fu F (c + 10 * L)) => show Calls Tryz.prog 103 #[.pointer (some ⟨r.rd, 0, none⟩), .agg #[.int .i64 P.a, .int .i64 ((P.l : Int) + 2), .int .i64 P.s], .int .i64 ((P.l : Int) + 1), .int .i64 0, .int .u64 (pkI 0 (P.l : Int) 0)] W (RWPost W r (c + 10 * L) (0, E, B2)) from by
    rw [hX, show pkI 0 (P.l : Int) 0 = ((pkN P 0 : Nat) : Int) from p1.symm]
    exact rww_any (p := bankR P) ((P.l : Int) + 1) 0 (pkN P 0) q ⟨f2.off, f2.buf⟩ hTI hMB fu (by omega) hP.ok p2)
  have HLb := Lib.hid hLb
  have HPk := Lib.hid (fun W => rpack_any 0 (P.l : Int) 0 W (by omega))
  have HBk := Lib.hid (fun W => show Calls Tryz.prog 67 #[.agg #[.int .i64 P.a, .int .i64 (P.l : Int), .int .i64 P.s, .int .i64 P.psi]] W _ from rbank07 hP W)
  have HCk := Lib.hid (fun W => show Calls Tryz.prog 82 #[.agg #[.int .i64 P.a, .int .i64 (P.l : Int), .int .i64 P.s, .int .i64 P.psi], .int .i64 (D.n : Int)] W _ from rcheck07 hP (D.n : Int) hck W)
  have HH := Lib.hid h
  have HX := Lib.hid (Holds.new w #[.int .i64 P.a, .int .i64 (P.l : Int), .int .i64 P.s, .int .i64 P.psi] 57)
  have HG := Lib.hid ((Gr.refl [] w).alloc (Obj.cells #[.int .i64 P.a, .int .i64 (P.l : Int), .int .i64 P.s, .int .i64 P.psi] 57))
  have HPB := Lib.hid (show w.heap.size ∉ r.all from fun e => by have := h.lt _ e; omega)
  have hw1 : IntKind.i64.wrap ((P.l : Int) + 1) = (P.l : Int) + 1 := IntWalk.i64_in _ (by omega)
  obtain ⟨pk, hpk⟩ : ∃ p : Int, pkI 0 (P.l : Int) 0 = p := ⟨_, rfl⟩
  rw [hpk] at HWw HPk
  clear ht8 q1 q2 q3 q4 q5 q6 ha hbl hck hLb p1 p2 s0 g0 h hfit hL hX hR hpk hP hpl2 hc hbad hmb hfu hlive f1 f2 f3 f4 f5 ft hTI hMB hcc
  unfold planV bankR at HBk
  simp only at HBk
  unfold planRV
  go_enter Tryz.func51, Tryz.ntmps51
  go_upto_region 1 with fail
  generalize (w.alloc (Obj.cells #[.int .i64 P.a, .int .i64 (P.l : Int), .int .i64 P.s, .int .i64 P.psi] 57)) = w1 at *
  obtain ⟨pb, hpb⟩ : ∃ pb, w.heap.size = pb := ⟨_, rfl⟩
  rw [hpb] at HX HPB ⊢
  clear hpb
  have H1 := Lib.hid (HH.out.gr0 HG.out)
  have k0 := kp_cell (a := ⟨pb, 0, none⟩) (show w1.cell? ⟨pb, 0, none⟩ = some (.int .i64 P.a) from HX.out.cell 0)
  have k1 := kp_cell (a := ⟨pb, 1, none⟩) (show w1.cell? ⟨pb, 1, none⟩ = some (.int .i64 (P.l : Int)) from HX.out.cell 1)
  have k2 := kp_cell (a := ⟨pb, 2, none⟩) (show w1.cell? ⟨pb, 2, none⟩ = some (.int .i64 P.s) from HX.out.cell 2)
  have k3 := kp_cell (a := ⟨pb, 3, none⟩) (show w1.cell? ⟨pb, 3, none⟩ = some (.int .i64 P.psi) from HX.out.cell 3)
  have k5 := kp_cell (a := ⟨r.rd, 1, none⟩) H1.out.c1
  have hne := kp_ne w1
  refine wp_region_kp (by kernel_rfl) (by kernel_rfl) ?_
  repeat (go_big_quiet_step ((rename_i x; exact kp_call x (HCk.out _))))
  with_reducible refine wpQuiet_nil ?_
  rintro _ ⟨y, rfl⟩
  have gy : Gr [] w1 y.w := Gr.ofBelow (cs := []) y.h
  have H2 := Lib.hid (And.intro (H1.out.gr0 gy) (And.intro (HX.out.gr0 gy) (HG.out.trans gy)))
  clear k0 k1 k2 k3 k5 hne gy H1 HX HG HCk
  generalize y.w = w2 at *
  clear y
  have c0 := H2.out.2.1.cell 0
  have c1 := H2.out.2.1.cell 1
  have c2 := H2.out.2.1.cell 2
  have c3 := H2.out.2.1.cell 3
  go_wp2_with fail
  refine (HBk.out _).mono ?_
  rintro e w3 ⟨rfl, g3⟩
  have H3 := Lib.hid (And.intro (H2.out.1.gr0 g3) (And.intro (H2.out.2.1.gr0 g3) (H2.out.2.2.trans g3)))
  clear g3 c0 c1 c2 c3 H2 HBk
  go_upto_region 5 with fail
  have hb := Holds.new w3 #[.int .i64 P.a, .int .i64 ((P.l : Int) + 2), .int .i64 P.s] 138
  have ga := (Gr.refl [] w3).alloc (Obj.cells #[.int .i64 P.a, .int .i64 ((P.l : Int) + 2), .int .i64 P.s] 138)
  have H4 := Lib.hid (And.intro (H3.out.1.gr0 ga) (And.intro (H3.out.2.1.gr0 ga) (And.intro (H3.out.2.2.trans ga) hb)))
  have HBB := Lib.hid (show w3.heap.size ∉ r.all from fun e => by have := H3.out.1.lt _ e; omega)
  clear hb ga H3
  generalize (w3.alloc (Obj.cells #[.int .i64 P.a, .int .i64 ((P.l : Int) + 2), .int .i64 P.s] 138)) = w4 at *
  obtain ⟨bb, hbb⟩ : ∃ bb, w3.heap.size = bb := ⟨_, rfl⟩
  rw [hbb] at H4 HBB ⊢
  clear hbb
  have b0 := H4.out.2.2.2.cell 0
  have b1 := H4.out.2.2.2.cell 1
  have b2 := H4.out.2.2.2.cell 2
  go_wp2_with fail
  refine (HFm.out _ H4.out.1).mono ?_
  rintro e w5 ⟨rfl, ⟨r5, fu5⟩, g5⟩
  have HFu := Lib.hid fu5
  have H5 := Lib.hid (And.intro r5 (And.intro (H4.out.2.1.gr g5 HPB.out) (And.intro ((H4.out.2.2.1.of0 (cs := r.all)).trans g5) (H4.out.2.2.2.gr g5 HBB.out))))
  clear r5 fu5 g5 b0 b1 b2 H4 HFm
  have c1 := H5.out.2.1.cell 1
  go_wp2_with fail
  refine (HPk.out _).mono ?_
  rintro e w6 ⟨rfl, rfl⟩
  have b0 := H5.out.2.2.2.cell 0
  have b1 := H5.out.2.2.2.cell 1
  have b2 := H5.out.2.2.2.cell 2
  go_wp2_with fail
  refine (HWw.out _ H5.out.1 HFu.out).mono ?_
  rintro e w7 ⟨rfl, r7, f7, g7⟩
  have H7 := Lib.hid (And.intro (And.intro r7 (f7.mono (c' := c + 12000) (by have := HLb.out; omega))) (H5.out.2.2.1.trans g7))
  clear r7 f7 g7 b0 b1 b2 c1 H5
  go_wp2_with fail
  go_ret
  exact ⟨rfl, H7.out.1, H7.out.2⟩
end
end Go.Proofs.YtjbhallhmnahbaaGreat

/-
  FlatMakes: the document's Check and Size of a config.
-/
namespace Go.Proofs.YtjbhallhmnahbaaGreat
open Go.RowKit
set_option linter.unusedVariables false

theorem rbankG9 (a l s psi : Int) (hl : -9223372036854775808 ≤ l ∧ l ≤ 9223372036854775807) (w : World) : Calls Tryz.prog 67 #[.agg #[.int .i64 a, .int .i64 l, .int .i64 s, .int .i64 psi]] w fun e w' => e = .returned (planV ⟨a, IntKind.i64.wrap (l + 2), s⟩) ∧ Gr [] w w' := by
  have HG := Lib.hid (((Gr.refl [] w).alloc (Obj.cells #[.int .i64 a, .int .i64 l, .int .i64 s, .int .i64 psi] 57)).alloc (Obj.cells #[.int .i64 0, .int .i64 0, .int .i64 0] 138))
  obtain ⟨x, hx⟩ : ∃ x : Int, IntKind.i64.wrap (l + 2) = x := ⟨_, rfl⟩
  unfold planV
  rw [hx]
  clear hl
  go_enter Tryz.func67, Tryz.ntmps67
  go_wp2_with fail
  exact bodyPost_ret (v := .agg #[.int .i64 a, .int .i64 x, .int .i64 s]) (by simp [results, Tryz.results67, go_sem]) rfl ⟨rfl, ((Gr.refl [] w).alloc _).alloc _⟩
set_option maxRecDepth 100000 in
set_option maxHeartbeats 8000000 in
theorem rchkG9 (a l s psi n : Int) (w : World) : Calls Tryz.prog 82 #[.agg #[.int .i64 a, .int .i64 l, .int .i64 s, .int .i64 psi], .int .i64 n] w fun e w' => e = .returned (.int .i64 (rcheckG a l s psi n)) ∧ Gr [] w w' := by
  have hh := Holds.new w #[.int .i64 a, .int .i64 l, .int .i64 s, .int .i64 psi] 57
  obtain ⟨c0, c1, c2, c3⟩ := (show (w.alloc (Obj.cells #[.int .i64 a, .int .i64 l, .int .i64 s, .int .i64 psi] 57)).cell? ⟨w.heap.size, 0, none⟩ = some (.int .i64 a) ∧ (w.alloc (Obj.cells #[.int .i64 a, .int .i64 l, .int .i64 s, .int .i64 psi] 57)).cell? ⟨w.heap.size, 1, none⟩ = some (.int .i64 l) ∧ (w.alloc (Obj.cells #[.int .i64 a, .int .i64 l, .int .i64 s, .int .i64 psi] 57)).cell? ⟨w.heap.size, 2, none⟩ = some (.int .i64 s) ∧ (w.alloc (Obj.cells #[.int .i64 a, .int .i64 l, .int .i64 s, .int .i64 psi] 57)).cell? ⟨w.heap.size, 3, none⟩ = some (.int .i64 psi) from ⟨hh.cell 0, hh.cell 1, hh.cell 2, hh.cell 3⟩)
  have HG := Lib.hid ((Gr.refl [] w).alloc (Obj.cells #[.int .i64 a, .int .i64 l, .int .i64 s, .int .i64 psi] 57))
  obtain ⟨w1, hw1⟩ : ∃ w1, w1 = w.alloc (Obj.cells #[.int .i64 a, .int .i64 l, .int .i64 s, .int .i64 psi] 57) := ⟨_, rfl⟩
  obtain ⟨pb, hpb⟩ : ∃ pb, pb = w.heap.size := ⟨_, rfl⟩
  rw [← hpb, ← hw1] at c0 c1 c2 c3
  rw [← hw1] at HG
  clear hh
  obtain ⟨r, hr⟩ : ∃ r, r = rcheckG a l s psi n := ⟨_, rfl⟩
  have HR := Lib.hid hr
  rw [← hr]
  clear hr
  by_cases i1 : l < 1
  · have hr : r = 2 := by rw [HR.out]; unfold rcheckG; rw [if_neg (by omega)]
    subst hr
    go_enter Tryz.func82, Tryz.ntmps82
    go_upto_region 1 with fail
    rw [← hw1, ← hpb]
    clear hw1 hpb
    go_wp2_with fail
    go_ret
    exact ⟨rfl, HG.out⟩
  · by_cases i2 : 1024 < l
    · have hr : r = 2 := by rw [HR.out]; unfold rcheckG; rw [if_neg (by omega)]
      subst hr
      go_enter Tryz.func82, Tryz.ntmps82
      go_upto_region 1 with fail
      rw [← hw1, ← hpb]
      clear hw1 hpb
      go_wp2_with fail
      go_ret
      exact ⟨rfl, HG.out⟩
    · by_cases i3 : psi < 1
      · have hr : r = 2 := by rw [HR.out]; unfold rcheckG; rw [if_neg (by omega)]
        subst hr
        go_enter Tryz.func82, Tryz.ntmps82
        go_upto_region 1 with fail
        rw [← hw1, ← hpb]
        clear hw1 hpb
        go_wp2_with fail
        go_ret
        exact ⟨rfl, HG.out⟩
      · by_cases i4 : 65535 < psi
        · have hr : r = 2 := by rw [HR.out]; unfold rcheckG; rw [if_neg (by omega)]
          subst hr
          go_enter Tryz.func82, Tryz.ntmps82
          go_upto_region 1 with fail
          rw [← hw1, ← hpb]
          clear hw1 hpb
          go_wp2_with fail
          go_ret
          exact ⟨rfl, HG.out⟩
        · have hr : r = checkZ ⟨a, l + 2, s⟩ n := by rw [HR.out]; unfold rcheckG; rw [if_pos (by omega)]
          obtain ⟨x, hx⟩ : ∃ x, x = l + 2 := ⟨_, rfl⟩
          have HB := Lib.hid (fun W => rbankG9 a l s psi (by omega) W)
          rw [show IntKind.i64.wrap (l + 2) = x from by rw [hx]; exact IntWalk.i64_in _ (by omega)] at HB
          have HC := Lib.hid (fun W => show Calls Tryz.prog 137 #[.agg #[.int .i64 a, .int .i64 x, .int .i64 s], .int .i64 n] W (fun e w' => e = .returned (.int .i64 r) ∧ Below W.heap.size W w') from by rw [hr, hx]; exact rcheck_any ⟨a, l + 2, s⟩ n W)
          unfold planV at HB
          clear hr hx
          go_enter Tryz.func82, Tryz.ntmps82
          go_upto_region 1 with fail
          rw [← hw1, ← hpb]
          clear hw1 hpb
          go_wp2_with fail
          refine (HB.out _).mono ?_
          rintro e w2 ⟨rfl, g2⟩
          have HG2 := Lib.hid ((HG.out.trans g2).alloc (Obj.cells #[.int .i64 a, .int .i64 x, .int .i64 s] 138))
          have hb := Holds.new w2 #[.int .i64 a, .int .i64 x, .int .i64 s] 138
          clear g2
          go_upto_region 4 with fail
          generalize w2.alloc (Obj.cells #[.int .i64 a, .int .i64 x, .int .i64 s] 138) = w2a at *
          obtain ⟨bb, hbb⟩ : ∃ bb, w2.heap.size = bb := ⟨_, rfl⟩
          rw [hbb] at hb ⊢
          have b0 := hb.cell 0
          have b1 := hb.cell 1
          have b2 := hb.cell 2
          clear hbb hb
          go_wp2_with fail
          refine (HC.out _).mono ?_
          rintro e w3 ⟨rfl, b3⟩
          have HG3 := Lib.hid (HG2.out.nextB b3)
          clear b3
          go_wp2_with fail
          go_ret
          exact ⟨rfl, HG3.out⟩

theorem rchk9_ok {C : CfgZ} (h : okP C) : rcheckG 0 C.l C.s C.psi 1000000 = 0 := by
  obtain ⟨h1, h2, h3, h4, h5, h6⟩ := h
  unfold rcheckG
  rw [if_pos ⟨h1, h2, h5, h6⟩]
  have hok : okZ ⟨0, C.l + 2, C.s⟩ = true := (okZ_iff _).2 ⟨by simp only; omega, by simp only; omega, by simp only; omega, by simp only; omega, by simp only; omega, by simp only; omega⟩
  unfold checkZ
  rw [if_pos hok, if_neg]
  unfold sizeZ tabZ
  rw [if_pos hok]
  simp only
  omega
theorem rchk9_no {C : CfgZ} (h : ¬ okP C) : rcheckG 0 C.l C.s C.psi 1000000 = 2 := by
  unfold rcheckG
  split
  · rename_i c
    have hok : okZ ⟨0, C.l + 2, C.s⟩ = false := by
      cases q : okZ ⟨0, C.l + 2, C.s⟩ with
      | false => rfl
      | true =>
        obtain ⟨q1, q2, q3, q4, q5, q6⟩ := (okZ_iff _).1 q
        simp only at q1 q2 q3 q4 q5 q6
        exact absurd (by unfold okP; omega) h
    unfold checkZ
    rw [hok]
    rfl
  · rfl
set_option maxRecDepth 100000 in
set_option maxHeartbeats 8000000 in
theorem rplan9 (C : CfgZ) (ho : okP C) (r : Int) (hr : 0 ≤ r ∧ r ≤ 16) (w : World) : Calls Tryz.prog 24 #[cfgV C, .int .i64 r] w fun e w' => e = .returned (.agg #[.int .i64 (1 + r * regS C), .int .i64 C.l, .int .i64 C.s, .int .i64 C.psi]) ∧ Gr [] w w' := by
  have ho' := ho
  obtain ⟨h1, h2, h3, h4, h5, h6⟩ := ho
  obtain ⟨rs, hrs⟩ := regS_ok ho'
  have hb := mul_b C hr.1 hr.2
  have hbb := regS_b C
  obtain ⟨x, hx⟩ : ∃ x, x = C.l + 2 := ⟨_, rfl⟩
  have hok : okZ ⟨0, C.l + 2, C.s⟩ = true := (okZ_iff _).2 ⟨by simp only; omega, by simp only; omega, by simp only; omega, by simp only; omega, by simp only; omega, by simp only; omega⟩
  have hsz : sizeZ ⟨0, C.l + 2, C.s⟩ = regS C := by
    rw [hrs]
    unfold sizeZ
    rw [if_pos hok]
    rfl
  have HB := Lib.hid (fun W => rbankG9 0 C.l C.s C.psi (by omega) W)
  rw [show IntKind.i64.wrap (C.l + 2) = x from by rw [hx]; exact IntWalk.i64_in _ (by omega)] at HB
  have HS := Lib.hid (fun W => show Calls Tryz.prog 68 #[.agg #[.int .i64 0, .int .i64 x, .int .i64 C.s]] W (fun e w' => e = .returned (.int .i64 (regS C)) ∧ Below W.heap.size W w') from by rw [hx, ← hsz]; exact rsize_any ⟨0, C.l + 2, C.s⟩ hok W)
  unfold planV at HB
  obtain ⟨R, l, s, psi, key⟩ := C
  simp only at h1 h2 h3 h4 h5 h6
  obtain ⟨z, hz⟩ : ∃ z, z = regS ⟨R, l, s, psi, key⟩ := ⟨_, rfl⟩
  rw [← hz] at hb HS hbb ⊢
  have m1 : IntKind.i64.wrap (r * z) = r * z := IntWalk.i64_in _ (by omega)
  have m2 : IntKind.i64.wrap (1 + r * z) = 1 + r * z := IntWalk.i64_in _ (by omega)
  unfold cfgV
  have hh := Holds.new w #[.int .i64 R, .int .i64 l, .int .i64 s, .int .i64 psi, .int .u64 (key : Int)] 26
  have hg := (Gr.refl [] w).alloc (Obj.cells #[.int .i64 R, .int .i64 l, .int .i64 s, .int .i64 psi, .int .u64 (key : Int)] 26)
  have hh2 := hh.alloc (Obj.cells #[.int .i64 0, .int .i64 0, .int .i64 0, .int .i64 0] 57)
  have hr2 := Holds.new (w.alloc (Obj.cells #[.int .i64 R, .int .i64 l, .int .i64 s, .int .i64 psi, .int .u64 (key : Int)] 26)) #[.int .i64 0, .int .i64 0, .int .i64 0, .int .i64 0] 57
  rw [World.size_alloc] at hr2
  have HG := Lib.hid (And.intro hh2 (And.intro hr2 (hg.alloc (Obj.cells #[.int .i64 0, .int .i64 0, .int .i64 0, .int .i64 0] 57))))
  clear hh hg hh2 hr2 hsz hok hrs rs ho' hx hz
  go_enter Tryz.func24, Tryz.ntmps24
  go_upto_region 1 with fail
  generalize ((w.alloc (Obj.cells #[.int .i64 R, .int .i64 l, .int .i64 s, .int .i64 psi, .int .u64 (key : Int)] 26)).alloc (Obj.cells #[.int .i64 0, .int .i64 0, .int .i64 0, .int .i64 0] 57)) = w1 at *
  obtain ⟨cb, hcb⟩ : ∃ cb, w.heap.size = cb := ⟨_, rfl⟩
  have HW := Lib.hid hcb
  rw [hcb] at HG ⊢
  clear hcb
  have c1 := HG.out.1.cell 1
  have c2 := HG.out.1.cell 2
  have c3 := HG.out.1.cell 3
  go_upto_region 2 with fail
  have hp := Holds.new w1 #[.int .i64 0, .int .i64 l, .int .i64 s, .int .i64 psi] 57
  have ga := (Gr.refl [] w1).alloc (Obj.cells #[.int .i64 0, .int .i64 l, .int .i64 s, .int .i64 psi] 57)
  have H1 := Lib.hid (And.intro hp (And.intro (HG.out.2.1.gr0 ga) (HG.out.2.2.trans ga)))
  have HLT := Lib.hid (show cb + 1 < w1.heap.size from HG.out.2.1.lt)
  clear hp ga c1 c2 c3 HG
  generalize (w1.alloc (Obj.cells #[.int .i64 0, .int .i64 l, .int .i64 s, .int .i64 psi] 57)) = w2 at *
  obtain ⟨pb, hpb⟩ : ∃ pb, w1.heap.size = pb := ⟨_, rfl⟩
  rw [hpb] at H1 HLT ⊢
  clear hpb
  have p0 := H1.out.1.cell 0
  have p1 := H1.out.1.cell 1
  have p2 := H1.out.1.cell 2
  have p3 := H1.out.1.cell 3
  go_wp2_with fail
  refine (HB.out _).mono ?_
  rintro e w3 ⟨rfl, g3⟩
  have hb3 := Holds.new w3 #[.int .i64 0, .int .i64 x, .int .i64 s] 138
  have gb := (Gr.refl [] w3).alloc (Obj.cells #[.int .i64 0, .int .i64 x, .int .i64 s] 138)
  have H3 := Lib.hid (And.intro hb3 (And.intro ((H1.out.1.gr0 g3).gr0 gb) (And.intro ((H1.out.2.1.gr0 g3).gr0 gb) ((H1.out.2.2.trans g3).trans gb))))
  clear g3 hb3 gb p0 p1 p2 p3 H1
  go_upto_region 3 with fail
  generalize (w3.alloc (Obj.cells #[.int .i64 0, .int .i64 x, .int .i64 s] 138)) = w4 at *
  obtain ⟨bb, hbb⟩ : ∃ bb, w3.heap.size = bb := ⟨_, rfl⟩
  rw [hbb] at H3 ⊢
  clear hbb
  have b0 := H3.out.1.cell 0
  have b1 := H3.out.1.cell 1
  have b2 := H3.out.1.cell 2
  go_wp2_with fail
  refine (HS.out _).mono ?_
  rintro e w5 ⟨rfl, b5⟩
  have g5 : Gr [] w4 w5 := .ofBelow b5
  have H5 := Lib.hid (And.intro (H3.out.2.1.gr0 g5) (And.intro (H3.out.2.2.1.gr0 g5) (H3.out.2.2.2.trans g5)))
  clear b5 g5 b0 b1 b2 H3
  have p0 := H5.out.1.cell 0
  have fz := H5.out.1.frozen 0
  go_upto_region 5 with fail
  have hs := H5.out.1.set 0 (.int .i64 (1 + r * z))
  have H6 := Lib.hid (show Holds (w5.setCell ⟨pb, 0, none⟩ (.int .i64 (1 + r * z))) pb #[.int .i64 (1 + r * z), .int .i64 l, .int .i64 s, .int .i64 psi] 57 ∧ Holds (w5.setCell ⟨pb, 0, none⟩ (.int .i64 (1 + r * z))) (cb + 1) #[.int .i64 0, .int .i64 0, .int .i64 0, .int .i64 0] 57 ∧ Gr [] w (w5.setCell ⟨pb, 0, none⟩ (.int .i64 (1 + r * z))) from ⟨by simpa using hs, H5.out.2.1.far (by have := HLT.out; simp only; omega) _, H5.out.2.2.setCell (.inr (by have := HLT.out; have := HW.out; simp only; omega)) _⟩)
  clear hs p0 fz H5
  generalize (w5.setCell ⟨pb, 0, none⟩ (.int .i64 (1 + r * z))) = w6 at *
  have p0 := H6.out.1.cell 0
  have p1 := H6.out.1.cell 1
  have p2 := H6.out.1.cell 2
  have p3 := H6.out.1.cell 3
  have q0 := H6.out.2.1.cell 0
  have q1 := H6.out.2.1.cell 1
  have q2 := H6.out.2.1.cell 2
  have q3 := H6.out.2.1.cell 3
  have f0 := H6.out.2.1.frozen 0
  have f1 := H6.out.2.1.frozen 1
  have f2 := H6.out.2.1.frozen 2
  have f3 := H6.out.2.1.frozen 3
  have HF := Lib.hid ((((H6.out.2.2.setCell (p := ⟨cb + 1, 0, none⟩) (.inr (by have := HW.out; simp only; omega)) (.int .i64 (1 + r * z))).setCell (p := ⟨cb + 1, 1, none⟩) (.inr (by have := HW.out; simp only; omega)) (.int .i64 l)).setCell (p := ⟨cb + 1, 2, none⟩) (.inr (by have := HW.out; simp only; omega)) (.int .i64 s)).setCell (p := ⟨cb + 1, 3, none⟩) (.inr (by have := HW.out; simp only; omega)) (.int .i64 psi))
  go_wp2_with fail
  exact bodyPost_ret (v := .agg #[.int .i64 (1 + r * z), .int .i64 l, .int .i64 s, .int .i64 psi]) (by simp [results, Tryz.results24, go_sem, *]) rfl ⟨rfl, HF.out⟩
end Go.Proofs.YtjbhallhmnahbaaGreat
