/-
  PkBs: FlO, FlVc, FlW.
-/
import Derived.Test.YtjbhallhmnahbaaGreatPkBp
import Derived.Test.YtjbhallhmnahbaaGreatPkBq
import Derived.Test.YtjbhallhmnahbaaGreatPkBr
import Derived.Test.YtjbhallhmnahbaaGreatPkAn

set_option linter.unusedVariables false

/-
  Layer 9: Make, of a device none of whose lines is bad.
-/
namespace Go.Proofs.YtjbhallhmnahbaaGreat
open Go.RowKit
set_option linter.unusedVariables false

section
variable {w : World} {a : DevA} {D : DevS} {C : CfgZ} {n c : Nat}
set_option maxRecDepth 100000 in
set_option maxHeartbeats 8000000 in
theorem fmake_any (h : DevIs w a D) (hC : OkC C) (hn : sizeC C ≤ (n : Int)) (g : Gud n D) (hb : Bd D c) (hc : c + 12000 * cR C < 380000) :
    Calls Tryz.prog 13 #[.pointer (some ⟨a.bd, 0, none⟩), cfgV C] w fun e w' => e = .returned (.int .i64 (makeZ C D).1) ∧ DevIs w' a (makeZ C D).2 ∧ Bd (makeZ C D).2 (c + 12000 * cR C + 100) ∧ Gr a.all w w' := by
  have HG := Lib.hid ((Gr.refl [] w).alloc (Obj.cells (cfgRow C) 37))
  have HC := Lib.hid (Holds.new w (cfgRow C) 37)
  obtain ⟨w1, hw1⟩ : ∃ w1, w1 = w.alloc (Obj.cells #[.int .i64 C.r, .int .i64 C.l, .int .i64 C.s, .int .i64 C.psi, .int .u64 (C.key : Int)] 37) := ⟨_, rfl⟩
  have hw1' : w.alloc (Obj.cells (cfgRow C) 37) = w1 := hw1.symm
  rw [hw1'] at HG HC
  unfold cfgRow at HC
  obtain ⟨cb, hcb⟩ : ∃ cb, w.heap.size = cb := ⟨_, rfl⟩
  have HNB := Lib.hid (show cb ∉ a.all from fun e => by have := h.lt _ e; omega)
  rw [hcb] at HC
  have HD := Lib.hid (h.gr0 HG.out)
  have HB := Lib.hid hb
  have HGud := Lib.hid g
  have HOK := Lib.hid hC
  have HN := Lib.hid hn
  have HCk := Lib.hid (fun W => show Calls Tryz.prog 36 #[.agg #[.int .i64 C.r, .int .i64 C.l, .int .i64 C.s, .int .i64 C.psi, .int .u64 (C.key : Int)], .int .i64 (D.n : Int)] W _ from ccheck_any C hC.wf.1 (D.n : Int) W)
  rw [hC.check (by rw [g.n]; exact hn)] at HCk
  have HTx := Lib.hid (fun W => text_any 0 0 0 0 0 0 0 0 (by decide) W)
  have HHd := Lib.hid (fun W => show Calls Tryz.prog 48 #[.agg #[.int .i64 C.r, .int .i64 C.l, .int .i64 C.s, .int .i64 C.psi, .int .u64 (C.key : Int)]] W _ from head_any C hC.wf.2 W)
  have HRg := Lib.hid (fun (k : Nat) (hk : k < cR C) W => show Calls Tryz.prog 47 #[.agg #[.int .i64 C.r, .int .i64 C.l, .int .i64 C.s, .int .i64 C.psi, .int .u64 (C.key : Int)], .int .i64 (k : Int)] W (fun e w' => e = .returned (planRV (regC C k)) ∧ Gr [] W w') by
    rw [← regV_eq hC hk]
    exact region_any C hC.wf.1 (k : Int) (by omega) (by have := hC.nums; omega) W)
  obtain ⟨R, hR⟩ : ∃ R, R = cR C := ⟨_, rfl⟩
  have hRr : C.r = (R : Int) := by have := hC.nums.1; omega
  rw [← hR] at hc ⊢
  have HR := Lib.hid (And.intro hR (show R ≤ 16 by have := hC.nums; omega))
  have hmk : makeZ C D = makeZ C D := rfl
  obtain ⟨X0, hX0⟩ : ∃ X, X = putE D 0 zeroT := ⟨_, rfl⟩
  obtain ⟨X1, hX1⟩ : ∃ X, X = makZ C R 0 X0.2 := ⟨_, rfl⟩
  obtain ⟨S, hS⟩ : ∃ S, S = headS C := ⟨_, rfl⟩
  obtain ⟨X2, hX2⟩ : ∃ X, X = putE X1.2 0 S := ⟨_, rfl⟩
  have hM : makeZ C D = if X0.1 ≠ 0 then X0 else if X1.1 ≠ 0 then X1 else if X2.1 ≠ 0 then X2 else (if tookB X2.2 0 S = true then 0 else 10, X2.2) := by
    rw [hX2, hX1, hX0, hS, hR]; rfl
  obtain ⟨M, hMM⟩ : ∃ M, M = makeZ C D := ⟨_, rfl⟩
  rw [← hMM] at hM ⊢
  rw [← hS] at HHd
  have HS64 := Lib.hid (show S.size ≤ maxLen by rw [hS, headS_size]; unfold maxLen; omega)
  have HP0 := Lib.hid (fun W (d : DevIs W a D) => lput_any a D 0 zeroT c W d hb (by omega) (by rw [zeroT_size]; unfold maxLen; omega))
  rw [← hX0] at HP0
  obtain ⟨Z, hZ⟩ : ∃ Z : ByteArray, Z = ⟨(catL [0, 0, 0, 0, 0, 0, 0, 0]).toArray⟩ := ⟨_, rfl⟩
  have hZ2 : zeroT = Z := hZ.symm
  rw [hZ2] at HP0
  rw [← hZ] at HTx
  -- the good device behind the first Put
  have HG0 := Lib.hid (show X0.1 = 0 → Gud n X0.2 from fun hz => by
    rw [hX0] at hz ⊢
    rcases put_live (l := 0) g.live (by rw [g.n]; have := hC.size; have := mul_b C (k := C.r) (by have := hC.r1; omega) hC.r2; omega) zeroT_size with ⟨E1, e1, s1⟩ | ⟨E1, e1, s1⟩
    · have e1' : putE D 0 zeroT = (0, E1) := e1
      rw [e1']
      exact ⟨s1.live, s1.bad.trans g.bad, s1.n.trans g.n⟩
    · have e1' : putE D 0 zeroT = (6, E1) := e1
      rw [e1'] at hz
      simp at hz)
  have HX := Lib.hid (And.intro hX1 hX2)
  have HMM := Lib.hid hM
  clear h g hC hn hb hw1' hX0 hX1 hX2 hM hMM hmk hS hZ hZ2 hR
  unfold cfgV
  rw [hRr] at HC HCk HHd HRg hw1 ⊢
  obtain ⟨e0, he0⟩ : ∃ e, e = X0.1 := ⟨_, rfl⟩
  rw [← he0] at HP0 HG0 HMM
  have HE0 := Lib.hid he0
  clear he0 hRr
  go_enter Tryz.func13, Tryz.ntmps13
  go_upto_region 1 with fail
  rw [← hw1]
  clear hw1 hcb
  go_upto_region 3 with fail
  have k0 := kp_cell (HC.out.cell 0)
  have k1 := kp_cell (HC.out.cell 1)
  have k2 := kp_cell (HC.out.cell 2)
  have k3 := kp_cell (HC.out.cell 3)
  have k4 := kp_cell (HC.out.cell 4)
  have hne := kp_ne w1
  refine wp_region_kp (by kernel_rfl) (by kernel_rfl) ?_
  repeat (go_big_quiet_step ((rename_i x; first
    | with_reducible exact kp_call x (linesK (HD.out.kp x.h))
    | with_reducible exact kp_call x ((HCk.out _).mono fun _ _ q => ⟨q.1, q.2.below0⟩))))
  with_reducible refine wpQuiet_nil ?_
  rintro _ ⟨y, rfl⟩
  have gy : Gr [] w1 y.w := Gr.ofBelow (cs := []) y.h
  have H2 := Lib.hid (And.intro (HC.out.gr0 gy) (And.intro (HD.out.gr0 gy) (HG.out.trans gy)))
  clear k0 k1 k2 k3 k4 hne gy HC HD HG HCk
  generalize y.w = w2 at *
  clear y
  go_wp2_with fail
  refine (HTx.out _).mono ?_
  rintro e w3 ⟨rfl, b3⟩
  have g3 := Gr.ofBelow (cs := []) b3
  have H3 := Lib.hid (And.intro (H2.out.1.gr0 g3) (And.intro (H2.out.2.1.gr0 g3) (H2.out.2.2.trans g3)))
  clear b3 g3 H2 HTx
  go_wp2_with fail
  with_reducible refine (HP0.out _ H3.out.2.1).mono ?_
  rintro e w4 ⟨rfl, d4, b4, g4⟩
  have H4 := Lib.hid (And.intro (H3.out.1.gr g4 HNB.out) (And.intro d4 (And.intro b4 ((H3.out.2.2.of0 (cs := a.all)).trans g4))))
  clear d4 b4 g4 H3 HP0
  by_cases hz0 : e0 = 0
  case neg =>
    have hM2 := HMM.out
    rw [if_pos hz0] at hM2
    have HM2 := Lib.hid hM2
    have hz' : (e0 != 0) = true := by simpa using hz0
    clear hM2 hz0
    go_wp2_with fail
    go_ret
    exact ⟨by rw [HM2.out, ← HE0.out]; rfl, by rw [HM2.out]; exact H4.out.2.1, by rw [HM2.out]; exact H4.out.2.2.1.mono (by omega), H4.out.2.2.2⟩
  subst hz0
  have hM2 := HMM.out
  rw [if_neg (by simp)] at hM2
  have HG1 := Lib.hid (HG0.out rfl)
  have HB1 := Lib.hid (show Bd X0.2 (c + 10) from H4.out.2.2.1)
  have HMM2 := Lib.hid hM2
  clear hM2 HMM HG0
  have c0 : w4.cell? ⟨cb, 0, none⟩ = some (.int .i64 (R : Int)) := H4.out.1.cell 0
  go_wp2_with fail
  clear c0
  go_loopw [28] (fun k wr => ∃ (j : Nat) (Dj : DevS), j ≤ R ∧ k = .int .i64 j ∧ Hid (makZ C (R - j) j Dj = X1) ∧ Hid (Gud n Dj) ∧ DevIs wr a Dj ∧ Bd Dj (c + 10 + 12000 * j) ∧ Holds wr cb #[.int .i64 (R : Int), .int .i64 C.l, .int .i64 C.s, .int .i64 C.psi, .int .u64 (C.key : Int)] 37 ∧ Gr a.all w wr) (fun k _ => R - (intOf k).toNat)
  case atStart => exact ⟨0, X0.2, by omega, rfl, Lib.hid (by rw [HX.out.1]; rfl), HG1, H4.out.2.1, HB1.out, H4.out.1, H4.out.2.2.2⟩
  case round =>
    obtain ⟨j, Dj, hj, rfl, hx', hg', hd', hb', hc', g'⟩ := hrel
    have HH := Lib.hid (And.intro hd' (And.intro hb' (And.intro hc' g')))
    clear hd' hb' g' hc' H4 HG1 HB1
    have c0 : wr.cell? ⟨cb, 0, none⟩ = some (.int .i64 (R : Int)) := HH.out.2.2.1.cell 0
    have c1 : wr.cell? ⟨cb, 1, none⟩ = some (.int .i64 C.l) := HH.out.2.2.1.cell 1
    have c2 : wr.cell? ⟨cb, 2, none⟩ = some (.int .i64 C.s) := HH.out.2.2.1.cell 2
    have c3 : wr.cell? ⟨cb, 3, none⟩ = some (.int .i64 C.psi) := HH.out.2.2.1.cell 3
    have c4 : wr.cell? ⟨cb, 4, none⟩ = some (.int .u64 (C.key : Int)) := HH.out.2.2.1.cell 4
    by_cases hjR : j < R
    · have ij : (j : Int) < (R : Int) := by omega
      have hR16 : R ≤ 16 := HR.out.2
      have HJ := Lib.hid (show j < cR C by rw [← HR.out.1]; exact hjR)
      obtain ⟨x1, x2, x3, x4⟩ := mak_step HOK.out HN.out HJ.out hg'.out
      have HF := Lib.hid (fun W (g : Gr [] wr W) => rgformat_gen (HOK.out.reg HJ.out).1 (HH.out.1.gr0 g) HH.out.2.1 (by have := HR.out.2; omega) x2 x1)
      obtain ⟨m, hm⟩ : ∃ m, R - j = m + 1 := ⟨R - j - 1, by omega⟩
      have hx2 := hx'.out
      rw [hm, makZ] at hx2
      obtain ⟨e1, he1⟩ : ∃ e, e = (rfmtZ (regC C j) Dj).1 := ⟨_, rfl⟩
      obtain ⟨D1, hD1⟩ : ∃ D1, D1 = (rfmtZ (regC C j) Dj).2 := ⟨_, rfl⟩
      rw [← he1, ← hD1] at HF
      obtain ⟨pv, hpv⟩ : ∃ v, v = planRV (regC C j) := ⟨_, rfl⟩
      rw [← hpv] at HF
      have HR1 := Lib.hid (fun W => by have := HRg.out j HJ.out W; rw [← hpv] at this; exact this)
      by_cases hz : e1 = 0
      · rw [if_neg (by rw [← he1]; simpa using hz), ← hD1] at hx2
        have HX2 := Lib.hid (show makZ C (R - (j + 1)) (j + 1) D1 = X1 by rw [show R - (j + 1) = m by omega]; exact hx2)
        have HGD := Lib.hid (show Gud n D1 by
          rcases x3 with ⟨E, b1, b2, _⟩ | ⟨E, b1, _⟩
          · rw [hD1, b1]; exact b2
          · rw [b1] at he1; rw [he1] at hz; simp at hz)
        clear hx2 hx' he1 hD1 hm hg' x1 x2 x3 x4 hpv
        subst hz
        go_wp2_with fail
        with_reducible refine (HR1.out _).mono ?_
        rintro e w5 ⟨rfl, g5⟩
        have HH5 := Lib.hid (And.intro g5 (HH.out.2.2.1.gr0 g5))
        clear g5 c0 c1 c2 c3 c4
        go_wp2_with fail
        with_reducible refine (HF.out _ HH5.out.1).mono ?_
        rintro e w6 ⟨rfl, hd6, hb6, g6⟩
        have H6 := Lib.hid (And.intro hd6 (And.intro hb6 (And.intro (HH5.out.2.gr g6 HNB.out) ((HH.out.2.2.2.next0 HH5.out.1).trans g6))))
        clear hd6 hb6 g6
        go_wp2_with fail
        go_roundw
        case rel => exact ⟨j + 1, D1, by omega, by go_num, HX2, HGD, H6.out.1, H6.out.2.1.mono (by omega), H6.out.2.2.1, H6.out.2.2.2⟩
        case measure => simp [intOf]; omega
      · rw [if_pos (by rw [← he1]; exact hz)] at hx2
        have hz' : (e1 != 0) = true := by simpa using hz
        have hM2 := HMM2.out
        rw [if_pos (by rw [← hx2, ← he1]; exact hz)] at hM2
        have HX2 := Lib.hid (show e1 = M.1 ∧ D1 = M.2 from ⟨by rw [he1, hM2, hx2], by rw [hD1, hM2, hx2]⟩)
        clear hx2 hx' he1 hD1 hm hz hM2 hg' x1 x2 x3 x4 hpv
        go_wp2_with fail
        with_reducible refine (HR1.out _).mono ?_
        rintro e w5 ⟨rfl, g5⟩
        have HH5 := Lib.hid g5
        clear g5 c0 c1 c2 c3 c4
        go_wp2_with fail
        with_reducible refine (HF.out _ HH5.out).mono ?_
        rintro e w6 ⟨rfl, hd6, hb6, g6⟩
        have H6 := Lib.hid (And.intro hd6 (And.intro hb6 ((HH.out.2.2.2.next0 HH5.out).trans g6)))
        clear hd6 hb6 g6
        go_wp2_with fail
        go_ret
        exact ⟨by rw [← HX2.out.1]; rfl, by rw [← HX2.out.2]; exact H6.out.1, by rw [← HX2.out.2]; exact H6.out.2.1.mono (by have := HR.out.2; omega), H6.out.2.2⟩
    · obtain rfl : j = R := by omega
      have ij : ¬ ((j : Int) < (j : Int)) := by omega
      have hx2 := hx'.out
      rw [Nat.sub_self, makZ] at hx2
      obtain ⟨hx3, hx4⟩ := pair_ne hx2
      have hM2 := HMM2.out
      rw [if_neg (by rw [← hx3]; simp)] at hM2
      have HPt := Lib.hid (fun W (d : DevIs W a Dj) => lput_any a Dj 0 S (c + 10 + 12000 * j) W d HH.out.2.1 (by have := HR.out.2; omega) HS64.out)
      have hX2 := HX.out.2
      rw [← hx4] at hX2
      rw [← hX2] at HPt
      obtain ⟨e2, he2⟩ : ∃ e, e = X2.1 := ⟨_, rfl⟩
      obtain ⟨D2, hD2⟩ : ∃ D, D = X2.2 := ⟨_, rfl⟩
      rw [← he2, ← hD2] at HPt hM2
      have hM3 : (e2 ≠ 0 → M = (e2, D2)) := fun q => by rw [hM2, if_pos q, he2, hD2]
      have hM4 : e2 = 0 → M = (if tookB D2 0 S = true then 0 else 10, D2) := fun q => by rw [hM2, if_neg (by rw [q]; simp)]
      have HM34 := Lib.hid (And.intro hM3 hM4)
      clear hx2 hx' hx3 hx4 hM2 hX2 he2 hD2 hM3 hM4 hg'
      go_wp2_with fail
      with_reducible refine (HHd.out _).mono ?_
      rintro e w5 ⟨rfl, g5⟩
      have H5 := Lib.hid (And.intro (HH.out.1.gr0 g5) (And.intro (HH.out.2.2.1.gr0 g5) (HH.out.2.2.2.next0 g5)))
      clear g5 c0 c1 c2 c3 c4 HH
      go_wp2_with fail
      with_reducible refine (HPt.out _ H5.out.1).mono ?_
      rintro e w6 ⟨rfl, d6, b6, g6⟩
      have H6 := Lib.hid (And.intro d6 (And.intro b6 (And.intro (H5.out.2.1.gr g6 HNB.out) (H5.out.2.2.trans g6))))
      clear d6 b6 g6 H5 HPt
      by_cases hz2 : e2 = 0
      · subst hz2
        have c0 : w6.cell? ⟨cb, 0, none⟩ = some (.int .i64 (j : Int)) := H6.out.2.2.1.cell 0
        have c1 : w6.cell? ⟨cb, 1, none⟩ = some (.int .i64 C.l) := H6.out.2.2.1.cell 1
        have c2 : w6.cell? ⟨cb, 2, none⟩ = some (.int .i64 C.s) := H6.out.2.2.1.cell 2
        have c3 : w6.cell? ⟨cb, 3, none⟩ = some (.int .i64 C.psi) := H6.out.2.2.1.cell 3
        have c4 : w6.cell? ⟨cb, 4, none⟩ = some (.int .u64 (C.key : Int)) := H6.out.2.2.1.cell 4
        have HTk := Lib.hid (fun W (d : DevIs W a D2) => took_any a D2 0 S W d HS64.out)
        obtain ⟨tk, htk⟩ : ∃ t, t = tookB D2 0 S := ⟨_, rfl⟩
        rw [← htk] at HTk
        have hM5 := HM34.out.2 rfl
        rw [← htk] at hM5
        have HM5 := Lib.hid hM5
        clear hM5 htk HM34
        go_wp2_with fail
        with_reducible refine (HHd.out _).mono ?_
        rintro e w7 ⟨rfl, g7⟩
        have H7 := Lib.hid (And.intro (H6.out.1.gr0 g7) (H6.out.2.2.2.next0 g7))
        clear g7 c0 c1 c2 c3 c4
        cases tk with
        | true =>
          have hM6 := HM5.out
          rw [if_pos rfl] at hM6
          have HM6 := Lib.hid hM6
          clear hM6 HM5
          go_wp2_with fail
          with_reducible refine (HTk.out _ H7.out.1).mono ?_
          rintro e w8 ⟨rfl, g8⟩
          have H8 := Lib.hid (And.intro (H7.out.1.gr0 g8) (H7.out.2.next0 g8))
          clear g8
          go_wp2_with fail
          go_ret
          exact ⟨by rw [HM6.out]; rfl, by rw [HM6.out]; exact H8.out.1, by rw [HM6.out]; exact H6.out.2.1.mono (by have := HR.out.2; omega), H8.out.2⟩
        | false =>
          have hM6 := HM5.out
          rw [if_neg (by simp)] at hM6
          have HM6 := Lib.hid hM6
          clear hM6 HM5
          go_wp2_with fail
          with_reducible refine (HTk.out _ H7.out.1).mono ?_
          rintro e w8 ⟨rfl, g8⟩
          have H8 := Lib.hid (And.intro (H7.out.1.gr0 g8) (H7.out.2.next0 g8))
          clear g8
          go_wp2_with fail
          go_ret
          exact ⟨by rw [HM6.out]; rfl, by rw [HM6.out]; exact H8.out.1, by rw [HM6.out]; exact H6.out.2.1.mono (by have := HR.out.2; omega), H8.out.2⟩
      · have HM6 := Lib.hid (HM34.out.1 hz2)
        have hz' : (e2 != 0) = true := by simpa using hz2
        clear hz2 HM34
        go_wp2_with fail
        go_ret
        exact ⟨by rw [HM6.out]; rfl, by rw [HM6.out]; exact H6.out.1, by rw [HM6.out]; exact H6.out.2.1.mono (by have := HR.out.2; omega), H6.out.2.2.2⟩
end
end Go.Proofs.YtjbhallhmnahbaaGreat

/-
  Layer 9: a list at work, told by what its lines have.
-/
namespace Go.Proofs.YtjbhallhmnahbaaGreat
open Go.RowKit
set_option linter.unusedVariables false

structure FL (C : CfgZ) (A : FlA) (a : DevA) (g : Bool) (F : Nat → Nat → Nat) (V : FlV) (N : Nat) (w : World) : Prop where
  ok : OkC C
  st : ∃ (D : DevS) (B : Nat → BkS) (j c : Nat → Nat), FlD C g F V N D B j ∧ FlIs w A a C B (64 + N / 20) j c ∧ DevIs w a D
section
variable {w w' : World} {A : FlA} {a : DevA} {C : CfgZ} {g : Bool} {F F' : Nat → Nat → Nat} {V : FlV} {N : Nat}
theorem FL.gr {bs : List Nat} (h : FL C A a g F V N w) (k : Gr bs w w') (hn : ∀ x ∈ A.all (cR C) ++ a.all, x ∉ bs) : FL C A a g F V N w' := by
  obtain ⟨ok, D, B, j, c, h1, h2, h3⟩ := h
  exact ⟨ok, D, B, j, c, h1, h2.gr k (fun x hx => hn x (by simp [hx])), h3.gr k (fun x hx => hn x (by simp [hx]))⟩
theorem FL.gr0 (h : FL C A a g F V N w) (k : Gr [] w w') : FL C A a g F V N w' := h.gr k (by simp)
theorem FL.lt (h : FL C A a g F V N w) : ∀ x ∈ A.all (cR C) ++ a.all, x < w.heap.size := by
  obtain ⟨ok, D, B, j, c, h1, h2, h3⟩ := h
  intro x hx
  rcases List.mem_append.1 hx with hx | hx
  · exact h2.lt x hx
  · exact h3.lt x hx
theorem FlD.congr {D : DevS} {B : Nat → BkS} {j : Nat → Nat} (h : FlD C g F V N D B j) (hF : ∀ l k, l < cR C * cL C → k < 8 → F l k = F' l k) : FlD C g F' V N D B j := by
  obtain ⟨G, L, hG⟩ := h.ls
  exact ⟨h.calm, h.gd, h.fit, ⟨G, L, fun l k hl hk => (hG l k hl hk).trans (hF l k hl hk)⟩, h.vs, h.mv, h.bd⟩
theorem FL.more {N' : Nat} (h : FL C A a g F V N w) (hN : N ≤ N') : FL C A a g F V N' w := by
  obtain ⟨ok, D, B, j, c, h1, h2, h3⟩ := h
  exact ⟨ok, D, B, j, c, ⟨h1.calm, h1.gd, h1.fit, h1.ls, h1.vs, fun q hq => Nat.le_trans (h1.mv q hq) hN, h1.bd.mono hN⟩, h2.moreN (by omega), h3⟩
theorem FL.any (h : FL C A a g F V N w) : FL C A a false F V N w := by
  obtain ⟨ok, D, B, j, c, h1, h2, h3⟩ := h
  exact ⟨ok, D, B, j, c, ⟨h1.calm, (fun q => absurd q (by simp)), h1.fit, h1.ls, h1.vs, h1.mv, h1.bd⟩, h2, h3⟩
theorem FL.inj (h : FL C A a g F V N w) {l l2 : Nat} (hl : l < cR C * cL C) (hl2 : l2 < cR C * cL C) (e : V.W l = V.W l2) : l = l2 := by
  obtain ⟨ok, D, B, j, c, h1, h2, h3⟩ := h
  exact h1.inj ok hl hl2 e
theorem FL.put (h : FL C A a g F V N w) (hN : N < 490000) (l : Nat) (hl : l < cR C * cL C) (s : ByteArray) (hs : s.size = 64) :
    Calls Tryz.prog 18 #[.pointer (some ⟨A.fb, 0, none⟩), .int .i64 (l : Int), .string s] w fun e w' => ∃ (x : Int) (V' : FlV), e = .returned (.int .i64 x) ∧ ((x = 0 ∧ FL C A a g (fun l2 k => if l2 = l then wdL s.data.toList k else F l2 k) V' (N + 4200) w') ∨ (x = 10 ∧ g = false ∧ (V'.U (qL C l) : Int) = C.s ∧ FL C A a g F V' (N + 4200) w')) ∧ Gr (A.all (cR C) ++ a.all) w w' := by
  obtain ⟨ok, D, B, j, c, h1, h2, h3⟩ := h
  obtain ⟨Gf, L, hF⟩ := h1.ls
  obtain ⟨hq, hi⟩ := qi_in ok hl
  obtain ⟨r1, r2, r3, r4, r5, r6, r7, r8⟩ := ok.reg hq
  have hj := h1.mv _ hq
  have hcb := calm_bare h1.calm
  have hrg : RgC (regC C (qL C l)) (bare D) (B (qL C l)) (j (qL C l)) (Gf (qL C l)) := by rw [hcb]; exact L.rg _ hq
  have hmed := h3.ok.medB
  have ho := reg_line r1 h1.calm.live hmed hrg (by omega) (by rw [r4]; exact hi) hs (c (qL C l))
  obtain ⟨u1, u2, u3⟩ := reg_used (f := fun z => writeS (bankR (regC C (qL C l))) z s) r1 h1.calm hmed (L.rg _ hq) (by omega) (show iL C l < (regC C (qL C l)).l by rw [r4]; exact hi) (c (qL C l)) (fun D B j hc h => line_used r1 (by rw [r4]; exact hi) hs D B j hc h)
  refine (fwrite_in l s h2 hl h3 h1.bd (by omega) (by omega) hs (by omega) h1.fit (fun hc => ?_)).mono ?_
  · obtain ⟨m1, m2, m3, _⟩ := move_last r1 h1.calm.live hmed hrg (by omega)
    exact ⟨m1, m2, m3⟩
  · rintro e w2 ⟨rfl, d2, b2, f2, g2⟩
    obtain ⟨⟨x, E, B', j', c'⟩, hX⟩ : ∃ X, regZ (regC C (qL C l)) (iL C l) (fun z => writeS (bankR (regC C (qL C l))) z s) D (B (qL C l)) (j (qL C l)) (c (qL C l)) = X := ⟨_, rfl⟩
    rw [hX] at ho u1 u2 u3 d2 b2 f2 ⊢
    simp only at ho u1 u2 u3 d2 b2 f2 ⊢
    refine ⟨x, vOf C (updN B (qL C l) B') (updN j (qL C l) j') (iL C), rfl, ?_, g2⟩
    rcases u2 with hx | ⟨hx, hu⟩
    · left
      refine ⟨hx, ok, E, _, _, _, FlD.next ok h1 hl u1 b2 (by omega) L hF ho (by omega) (H := wdL s.data.toList) (fun X hX => ?_), f2.moreN (by omega), d2⟩
      exact hX.1 hx
    · right
      refine ⟨hx, ?_, ?_, ok, E, _, _, _, (FlD.next ok h1 hl u1 b2 (by omega) L hF ho (by omega) (H := F l) (fun X hX k hk => ?_)).congr (fun l2 k _ _ => ?_), f2.moreN (by omega), d2⟩
      · cases hg : g with
        | false => rfl
        | true => have := u3 (h1.gd hg); omega
      · show ((updN B (qL C l) B' (qL C l)).used : Int) = C.s
        rw [updN_same, hu, r5]
      · rw [hX.2.1 hx k hk]
        exact hF l k hl hk
      · split
        · rename_i e; rw [e]
        · rfl
theorem FL.read (h : FL C A a g F V N w) (l : Nat) (hl : l < cR C * cL C) :
    Calls Tryz.prog 22 #[.pointer (some ⟨A.fb, 0, none⟩), .int .i64 (l : Int)] w fun e w' => e = .returned (.tuple #[.string (lnF F l), .int .i64 0]) ∧ Gr [] w w' := by
  obtain ⟨ok, D, B, j, c, h1, h2, h3⟩ := h
  have hr := (h1.read ok h3.ok.medB hl).1
  have := fread_in l h2 hl h3 h1.fit
  rw [hr] at this
  exact this
theorem FL.size (h : FL C A a g F V N w) (l : Nat) (hl : l < cR C * cL C) : (lnF F l).size = 64 ∧ ∀ k, k < 8 → wdL (lnF F l).data.toList k = F l k := by
  obtain ⟨ok, D, B, j, c, h1, h2, h3⟩ := h
  exact (h1.read ok h3.ok.medB hl).2
theorem FL.lines (h : FL C A a g F V N w) : Calls Tryz.prog 30 #[.pointer (some ⟨A.fb, 0, none⟩)] w fun e w' => e = .returned (.int .i64 ((cR C * cL C : Nat) : Int)) ∧ Gr [] w w' := by
  obtain ⟨ok, D, B, j, c, h1, h2, h3⟩ := h
  exact flines_in h2
theorem FL.region (h : FL C A a g F V N w) (l : Nat) (hl : l < cR C * cL C) : Calls Tryz.prog 40 #[.pointer (some ⟨A.fb, 0, none⟩), .int .i64 (l : Int)] w fun e w' => e = .returned (.int .i64 ((qL C l : Nat) : Int)) ∧ Gr [] w w' := by
  obtain ⟨ok, D, B, j, c, h1, h2, h3⟩ := h
  exact fregion_in l h2 hl
theorem FL.config (h : FL C A a g F V N w) : Calls Tryz.prog 39 #[.pointer (some ⟨A.fb, 0, none⟩)] w fun e w' => e = .returned (cfgV C) ∧ Gr [] w w' := by
  obtain ⟨ok, D, B, j, c, h1, h2, h3⟩ := h
  exact fconfig_in h2
theorem fl_open {D : DevS} {B : Nat → BkS} {j : Nat → Nat} (hC : OkC C) (h : FlD C g F V N D B j) (hN : N < 500000) (h3 : DevIs w a D) :
    Calls Tryz.prog 16 #[.pointer (some ⟨a.bd, 0, none⟩)] w fun e w' => ∃ A : FlA, e = .returned (.tuple #[.pointer (some ⟨A.fb, 0, none⟩), .int .i64 0]) ∧ FL C A a g F V N w' ∧ (∀ x ∈ A.all (cR C), w.heap.size ≤ x) ∧ Gr [] w w' := by
  obtain ⟨G, L, hG⟩ := h.ls
  refine (fopen_ok h3 hC h.fit h.calm L (fun q hq => by have := h.mv q hq; omega)).mono ?_
  rintro e w2 ⟨A, rfl, f2, n2, g2⟩
  exact ⟨A, rfl, ⟨hC, D, B, j, _, h, f2.moreN (by omega), h3.gr0 g2⟩, n2, g2⟩
theorem fl_made {n : Nat} (hC : OkC C) (hn : sizeC C ≤ (n : Int)) {D : DevS} (hc : Calm D) (hg : Gud n D) : (makeZ C D).1 = 0 ∧ Gud n (makeZ C D).2 ∧ Calm (makeZ C D).2 ∧ (Bd (makeZ C D).2 N → FlD C true (fun _ _ => 0) (vOf C (fun _ => B0) (fun _ => 0) (iL C)) N (makeZ C D).2 (fun _ => B0) (fun _ => 0)) := by
  obtain ⟨m1, m2⟩ := make_last hC hn D hg
  obtain ⟨m3, m4⟩ := m2 hc
  rcases m1 with ⟨E, e1, e2, e3⟩ | ⟨E, e1, _⟩
  · rw [e1] at m4 ⊢
    simp only at m4 ⊢
    rw [calm_bare m4] at e3
    exact ⟨trivial, e2, m4, fun hb => ⟨m4, fun _ => e2.bad, by rw [e2.n]; exact hn, ⟨_, e3, fun _ _ _ _ => rfl⟩, rfl, fun _ _ => by omega, hb⟩⟩
  · rw [e1] at m3
    simp at m3
end
end Go.Proofs.YtjbhallhmnahbaaGreat

/-
  Layer 9: the law's full, its examples.
-/
namespace Go.Proofs.YtjbhallhmnahbaaGreat
open Go.RowKit
set_option linter.unusedVariables false

set_option maxRecDepth 20000 in
set_option maxHeartbeats 2000000 in
theorem full09 (s : ByteArray) (w : World) (hs : s.size ≤ 4611686018427387904) :
    Calls Tryz.prog 19 #[.string s] w fun e w' => e = .returned (.string (fullS s)) ∧ Gr [] w w' := by
  go_enter Tryz.func19, Tryz.ntmps19
  go_wp2_with fail
  refine (repeat64 _).mono ?_
  rintro e w1 ⟨rfl, g1⟩
  have HG := Lib.hid g1
  clear g1
  go_wp2_with fail
  go_ret
  exact ⟨by rw [← extract_full]; rfl, HG.out⟩
def C9 : CfgZ := ⟨2, 4, 0, 3, 77⟩
theorem regS9 : regS C9 = 6 := by
  obtain ⟨_, h⟩ := regS_ok (C := C9) (by unfold okP C9; simp only; omega)
  rw [h]
  rfl
theorem ok9 : OkC C9 := ⟨by decide, by decide, by unfold okP C9; simp only; omega, by decide, by rw [regS9]; decide⟩
theorem size9 : sizeC C9 = 13 := by rw [ok9.size, regS9]; rfl
theorem nought_word {k : Nat} (h : k < 8) : wdL (fullS ⟨#[]⟩).data.toList k = 0 := by
  rcases (show k = 0 ∨ k = 1 ∨ k = 2 ∨ k = 3 ∨ k = 4 ∨ k = 5 ∨ k = 6 ∨ k = 7 by omega) with rfl | rfl | rfl | rfl | rfl | rfl | rfl | rfl <;> decide +kernel
theorem newD_gud (n : Nat) : Gud n (newD n) ∧ Calm (newD n) ∧ Bd (newD n) 0 := ⟨⟨⟨rfl, fun _ => rfl⟩, rfl, rfl⟩, ⟨rfl, rfl, fun _ => rfl⟩, ⟨Nat.le_refl _, fun _ => ⟨by show (0 : Int) ≤ 0; omega, by show (0 : Int) ≤ 0; omega⟩⟩⟩
theorem fl_new {C : CfgZ} (hC : OkC C) {n : Nat} (hn : sizeC C ≤ (n : Int)) (w : World) (a : DevA) (h : DevIs w a (newD n)) :
    Calls Tryz.prog 13 #[.pointer (some ⟨a.bd, 0, none⟩), cfgV C] w fun e w' => e = .returned (.int .i64 0) ∧ DevIs w' a (makeZ C (newD n)).2 ∧ FlD C true (fun _ _ => 0) (vOf C (fun _ => B0) (fun _ => 0) (iL C)) 200000 (makeZ C (newD n)).2 (fun _ => B0) (fun _ => 0) ∧ Gr a.all w w' := by
  obtain ⟨g1, g2, g3⟩ := newD_gud n
  obtain ⟨m1, m2, m3, m4⟩ := fl_made (N := 200000) hC hn g2 g1
  have n4 := hC.nums
  refine (fmake_any h hC hn g1 g3 (by omega)).mono ?_
  rintro e w2 ⟨rfl, d2, b2, g2⟩
  exact ⟨by rw [m1], d2, m4 (b2.mono (by omega)), g2⟩
theorem lnF_is {C : CfgZ} {A : FlA} {a : DevA} {g : Bool} {F : Nat → Nat → Nat} {V : FlV} {N : Nat} {w : World} (h : FL C A a g F V N w) {l : Nat} (hl : l < cR C * cL C) {s : ByteArray} (hs : s.size = 64) (hF : ∀ k, k < 8 → F l k = wdL s.data.toList k) : lnF F l = s := by
  obtain ⟨h1, h2⟩ := h.size l hl
  exact bytes_eq h1 hs fun k hk => (h2 k hk).trans (hF k hk)
set_option maxRecDepth 100000 in
set_option maxHeartbeats 8000000 in
theorem wakes09 (w : World) : Calls Tryz.prog 12 #[] w fun e w' => e = .returned (.bool true) ∧ Gr [] w w' := by
  have HFx := Lib.hid (fun W => full09 ⟨#[120]⟩ W (by show 1 ≤ _; omega))
  have HF0 := Lib.hid (fun W => full09 ⟨#[]⟩ W (by show 0 ≤ _; omega))
  obtain ⟨X, hX⟩ : ∃ A, A = fullS ⟨#[120]⟩ := ⟨_, rfl⟩
  obtain ⟨Y, hY⟩ : ∃ A, A = fullS ⟨#[]⟩ := ⟨_, rfl⟩
  have HX := Lib.hid (show X.size = 64 by rw [hX]; exact fullS_size _)
  have HY := Lib.hid (show Y.size = 64 ∧ ∀ k, k < 8 → wdL Y.data.toList k = 0 by rw [hY]; exact ⟨fullS_size _, fun k hk => nought_word hk⟩)
  rw [← hX] at HFx
  rw [← hY] at HF0
  have HMk := Lib.hid (fun W a (d : DevIs W a (newD 13)) => show Calls Tryz.prog 13 #[.pointer (some ⟨a.bd, 0, none⟩), .agg #[.int .i64 2, .int .i64 4, .int .i64 0, .int .i64 3, .int .u64 77]] W _ from fl_new ok9 (by rw [size9]; decide) W a d)
  have HSz := Lib.hid (fun W => show Calls Tryz.prog 37 #[.agg #[.int .i64 2, .int .i64 4, .int .i64 0, .int .i64 3, .int .u64 77]] W (fun e w' => e = .returned (.int .i64 13) ∧ Gr [] W w') from by have := csize_any C9 ok9.wf.1 W; rw [size9] at this; exact this)
  have HH := Lib.hid (Holds.new w #[.int .i64 2, .int .i64 4, .int .i64 0, .int .i64 3, .int .u64 77] 37)
  have HG0 := Lib.hid ((Gr.refl [] w).alloc (Obj.cells #[.int .i64 2, .int .i64 4, .int .i64 0, .int .i64 3, .int .u64 77] 37))
  have hneq : ∀ W : World, (binOp .neq 37 (.agg #[.int .i64 2, .int .i64 4, .int .i64 0, .int .i64 3, .int .u64 77]) (.agg #[.int .i64 2, .int .i64 4, .int .i64 0, .int .i64 3, .int .u64 77])).run Tryz.prog W = .ok (.bool false) W := fun W => by kernel_rfl
  clear hX hY
  go_enter Tryz.func12, Tryz.ntmps12
  go_upto_region 2 with fail
  generalize (w.alloc (Obj.cells #[.int .i64 2, .int .i64 4, .int .i64 0, .int .i64 3, .int .u64 77] 37)) = w1 at *
  obtain ⟨pb, hpb⟩ : ∃ pb, w.heap.size = pb := ⟨_, rfl⟩
  rw [hpb] at HH ⊢
  clear hpb
  go_wp2_with fail
  refine (pmnew_yes 13 _ (by omega) (by omega)).mono ?_
  rintro e w2 ⟨a, rfl, d2, hlo, g2⟩
  have HLO := Lib.hid (show ∀ x ∈ a.all, w.heap.size ≤ x from fun x hx => Nat.le_trans HG0.out.size (hlo x hx))
  have HNP := Lib.hid (show pb ∉ a.all from fun q => by have := hlo _ q; have := HH.out.lt; omega)
  have H2 := Lib.hid (And.intro d2 (And.intro (HH.out.gr0 g2) (HG0.out.trans g2)))
  have c0 := H2.out.2.1.cell 0
  have c1 := H2.out.2.1.cell 1
  have c2 := H2.out.2.1.cell 2
  have c3 := H2.out.2.1.cell 3
  have c4 := H2.out.2.1.cell 4
  clear d2 g2 hlo HH HG0
  go_wp2_with fail
  with_reducible refine (HMk.out _ a H2.out.1).mono ?_
  rintro e w3 ⟨rfl, d3, f3, g3⟩
  have H3 := Lib.hid (And.intro d3 (And.intro (H2.out.2.1.gr g3 HNP.out) (And.intro (H2.out.2.2.nextN g3 fun x hx => .inr (HLO.out x hx)) f3)))
  clear d3 f3 g3 c0 c1 c2 c3 c4 H2 HMk
  go_wp2_with fail
  refine (fl_open ok9 H3.out.2.2.2 (by omega) H3.out.1).mono ?_
  rintro e w4 ⟨A, rfl, f4, n4, g4⟩
  have HNA := Lib.hid (show ∀ x ∈ A.all (cR C9) ++ a.all, w.heap.size ≤ x from fun x hx => by
    rcases List.mem_append.1 hx with hx | hx
    · exact Nat.le_trans H3.out.2.2.1.size (n4 x hx)
    · exact HLO.out x hx)
  have H4 := Lib.hid (And.intro f4 (And.intro (H3.out.2.1.gr0 g4) (H3.out.2.2.1.trans g4)))
  clear f4 n4 g4 H3
  have k0 := kp_cell (H4.out.2.1.cell 0)
  have k1 := kp_cell (H4.out.2.1.cell 1)
  have k2 := kp_cell (H4.out.2.1.cell 2)
  have k3 := kp_cell (H4.out.2.1.cell 3)
  have k4 := kp_cell (H4.out.2.1.cell 4)
  have hne := kp_ne w4
  go_wp2_with fail
  have HLn := Lib.hid (fun (x : Cls (Kp w4)) => show Calls Tryz.prog 30 #[.pointer (some ⟨A.fb, 0, none⟩)] x.w (fun e w' => e = .returned (.int .i64 8) ∧ Below x.w.heap.size x.w w') from ((H4.out.1.gr0 (Gr.ofBelow x.h)).lines).mono fun _ _ q => ⟨q.1, q.2.below0⟩)
  have HCn := Lib.hid (fun (x : Cls (Kp w4)) => show Calls Tryz.prog 39 #[.pointer (some ⟨A.fb, 0, none⟩)] x.w (fun e w' => e = .returned (.agg #[.int .i64 2, .int .i64 4, .int .i64 0, .int .i64 3, .int .u64 77]) ∧ Below x.w.heap.size x.w w') from ((H4.out.1.gr0 (Gr.ofBelow x.h)).config).mono fun _ _ q => ⟨q.1, q.2.below0⟩)
  refine wp_region_kp (by kernel_rfl) (by kernel_rfl) ?_
  repeat (go_big_quiet_step ((rename_i x; first
    | with_reducible exact kp_call x (HLn.out x)
    | with_reducible exact kp_call x (HCn.out x)
    | with_reducible exact kp_call x ((HSz.out _).mono fun _ _ q => ⟨q.1, q.2.below0⟩))))
  with_reducible refine wpQuiet_nil ?_
  rintro _ ⟨y, rfl⟩
  have gy : Gr [] w4 y.w := Gr.ofBelow (cs := []) y.h
  have H5 := Lib.hid (And.intro (H4.out.1.gr0 gy) (H4.out.2.2.trans gy))
  clear k0 k1 k2 k3 k4 hne gy H4 HLn HCn hneq HSz
  generalize y.w = w5 at *
  clear y
  go_wp2_with fail
  with_reducible refine (HFx.out _).mono ?_
  rintro e w6 ⟨rfl, g6⟩
  have H6 := Lib.hid (And.intro (H5.out.1.gr0 g6) (H5.out.2.trans g6))
  clear g6 H5
  go_wp2_with fail
  refine (H6.out.1.put (by omega) 5 (by decide) X HX.out).mono ?_
  rintro e w7 ⟨x, V', rfl, hx, g7⟩
  rcases hx with ⟨rfl, f7⟩ | ⟨_, hf, _⟩
  case inr => exact absurd hf (by decide)
  have H7 := Lib.hid (And.intro f7 (H6.out.2.nextN g7 fun x hx => .inr (HNA.out x hx)))
  clear f7 g7 H6
  go_wp2_with fail
  refine (H7.out.1.read 5 (by decide)).mono ?_
  rintro e w8 ⟨rfl, g8⟩
  have H8 := Lib.hid (And.intro (H7.out.1.gr0 g8) (H7.out.2.trans g8))
  clear g8 H7
  rw [lnF_is H8.out.1 (by decide) HX.out (fun k hk => if_pos rfl)]
  go_wp2_with fail
  refine (H8.out.1.read 4 (by decide)).mono ?_
  rintro e w9 ⟨rfl, g9⟩
  have H9 := Lib.hid (And.intro (H8.out.1.gr0 g9) (H8.out.2.trans g9))
  clear g9 H8
  rw [lnF_is H9.out.1 (by decide) HY.out.1 (fun k hk => by rw [if_neg (by decide), HY.out.2 k hk])]
  have HRg := Lib.hid (fun W (g : Gr [] w9 W) => show Calls Tryz.prog 40 #[.pointer (some ⟨A.fb, 0, none⟩), .int .i64 5] W (fun e w' => e = .returned (.int .i64 1) ∧ Gr [] W w') from (H9.out.1.gr0 g).region 5 (by decide))
  go_wp2_with fail
  with_reducible refine (HFx.out _).mono ?_
  rintro e wa ⟨rfl, ga⟩
  have HA := Lib.hid ga
  clear ga
  go_wp2_with fail
  with_reducible refine (HF0.out _).mono ?_
  rintro e wb ⟨rfl, gb⟩
  have HB := Lib.hid (HA.out.trans gb)
  clear gb HA
  go_wp2_with fail
  with_reducible refine (HRg.out _ HB.out).mono ?_
  rintro e wc ⟨rfl, gc⟩
  have HF := Lib.hid (H9.out.2.trans (HB.out.trans gc))
  clear gc HB
  go_wp2_with fail
  go_ret
  exact ⟨rfl, HF.out⟩
end Go.Proofs.YtjbhallhmnahbaaGreat
