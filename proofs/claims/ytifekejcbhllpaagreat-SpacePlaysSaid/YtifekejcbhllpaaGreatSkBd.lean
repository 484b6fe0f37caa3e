/-
  SkBd: FlO, FlVc, HtA, HtP.
-/
import Derived.Test.YtifekejcbhllpaaGreatSkAz
import Derived.Test.YtifekejcbhllpaaGreatSkBa
import Derived.Test.YtifekejcbhllpaaGreatSkBb
import Derived.Test.YtifekejcbhllpaaGreatSkBc

set_option linter.unusedVariables false

/-
  Layer 9: Make, of a device none of whose lines is bad.
-/
namespace Go.Proofs.YtifekejcbhllpaaGreat
open Go.RowKit
set_option linter.unusedVariables false

section
variable {w : World} {a : DevA} {D : DevS} {C : CfgZ} {n c : Nat}
set_option maxRecDepth 100000 in
set_option maxHeartbeats 8000000 in
theorem fmake_any (h : DevIs w a D) (hC : OkC C) (hn : sizeC C ≤ (n : Int)) (g : Gud n D) (hb : Bd D c) (hc : c + 12000 * cR C < 380000) :
    Calls Tryz.prog 54 #[.pointer (some ⟨a.bd, 0, none⟩), cfgV C] w fun e w' => e = .returned (.int .i64 (makeZ C D).1) ∧ DevIs w' a (makeZ C D).2 ∧ Bd (makeZ C D).2 (c + 12000 * cR C + 100) ∧ Gr a.all w w' := by
  have HG := Lib.hid ((Gr.refl [] w).alloc (Obj.cells (cfgRow C) 64))
  have HC := Lib.hid (Holds.new w (cfgRow C) 64)
  obtain ⟨w1, hw1⟩ : ∃ w1, w1 = w.alloc (Obj.cells #[.int .i64 C.r, .int .i64 C.l, .int .i64 C.s, .int .i64 C.psi, .int .u64 (C.key : Int)] 64) := ⟨_, rfl⟩
  have hw1' : w.alloc (Obj.cells (cfgRow C) 64) = w1 := hw1.symm
  rw [hw1'] at HG HC
  unfold cfgRow at HC
  obtain ⟨cb, hcb⟩ : ∃ cb, w.heap.size = cb := ⟨_, rfl⟩
  have HNB := Lib.hid (show cb ∉ a.all from fun e => by have := h.lt _ e; omega)
  rw [hcb] at HC
  have HD := Lib.hid (h.gr0 HG.out)
  have HB := Lib.hid hb
  have HGud := Lib.hid g
  have HOK := Lib.hid hC
  have HN := Lib.hid hn
  have HCk := Lib.hid (fun W => show Calls Tryz.prog 82 #[.agg #[.int .i64 C.r, .int .i64 C.l, .int .i64 C.s, .int .i64 C.psi, .int .u64 (C.key : Int)], .int .i64 (D.n : Int)] W _ from ccheck_any C hC.wf.1 (D.n : Int) W)
  rw [hC.check (by rw [g.n]; exact hn)] at HCk
  have HTx := Lib.hid (fun W => text_any 0 0 0 0 0 0 0 0 (by decide) W)
  have HHd := Lib.hid (fun W => show Calls Tryz.prog 86 #[.agg #[.int .i64 C.r, .int .i64 C.l, .int .i64 C.s, .int .i64 C.psi, .int .u64 (C.key : Int)]] W _ from head_any C hC.wf.2 W)
  have HRg := Lib.hid (fun (k : Nat) (hk : k < cR C) W => show Calls Tryz.prog 49 #[.agg #[.int .i64 C.r, .int .i64 C.l, .int .i64 C.s, .int .i64 C.psi, .int .u64 (C.key : Int)], .int .i64 (k : Int)] W (fun e w' => e = .returned (planRV (regC C k)) ∧ Gr [] W w') by
    rw [← regV_eq hC hk]
    exact region_any C hC.wf.1 (k : Int) (by omega) (by have := hC.nums; omega) W)
  obtain ⟨R, hR⟩ : ∃ R, R = cR C := ⟨_, rfl⟩
  have hRr : C.r = (R : Int) := by have := hC.nums.1; omega
  rw [← hR] at hc ⊢
  have HR := Lib.hid (And.intro hR (show R ≤ 16 by have := hC.nums; omega))
  have hmk : makeZ C D = makeZ C D := rfl
  obtain ⟨X0, hX0⟩ : ∃ X, X = putE D 0 zeroT := ⟨_, rfl⟩
  obtain ⟨X1, hX1⟩ : ∃ X, X = makZ C R 0 X0.2 := ⟨_, rfl⟩
  obtain ⟨S, hS⟩ : ∃ S, S = headS C := ⟨_, rfl⟩
  obtain ⟨X2, hX2⟩ : ∃ X, X = putE X1.2 0 S := ⟨_, rfl⟩
  have hM : makeZ C D = if X0.1 ≠ 0 then X0 else if X1.1 ≠ 0 then X1 else if X2.1 ≠ 0 then X2 else (if tookB X2.2 0 S = true then 0 else 10, X2.2) := by
    rw [hX2, hX1, hX0, hS, hR]; rfl
  obtain ⟨M, hMM⟩ : ∃ M, M = makeZ C D := ⟨_, rfl⟩
  rw [← hMM] at hM ⊢
  rw [← hS] at HHd
  have HS64 := Lib.hid (show S.size ≤ maxLen by rw [hS, headS_size]; unfold maxLen; omega)
  have HP0 := Lib.hid (fun W (d : DevIs W a D) => lput_any a D 0 zeroT c W d hb (by omega) (by rw [zeroT_size]; unfold maxLen; omega))
  rw [← hX0] at HP0
  obtain ⟨Z, hZ⟩ : ∃ Z : ByteArray, Z = ⟨(catL [0, 0, 0, 0, 0, 0, 0, 0]).toArray⟩ := ⟨_, rfl⟩
  have hZ2 : zeroT = Z := hZ.symm
  rw [hZ2] at HP0
  rw [← hZ] at HTx
  -- the good device behind the first Put
  have HG0 := Lib.hid (show X0.1 = 0 → Gud n X0.2 from fun hz => by
    rw [hX0] at hz ⊢
    rcases put_live (l := 0) g.live (by rw [g.n]; have := hC.size; have := mul_b C (k := C.r) (by have := hC.r1; omega) hC.r2; omega) zeroT_size with ⟨E1, e1, s1⟩ | ⟨E1, e1, s1⟩
    · have e1' : putE D 0 zeroT = (0, E1) := e1
      rw [e1']
      exact ⟨s1.live, s1.bad.trans g.bad, s1.n.trans g.n⟩
    · have e1' : putE D 0 zeroT = (6, E1) := e1
      rw [e1'] at hz
      simp at hz)
  have HX := Lib.hid (And.intro hX1 hX2)
  have HMM := Lib.hid hM
  clear h g hC hn hb hw1' hX0 hX1 hX2 hM hMM hmk hS hZ hZ2 hR
  unfold cfgV
  rw [hRr] at HC HCk HHd HRg hw1 ⊢
  obtain ⟨e0, he0⟩ : ∃ e, e = X0.1 := ⟨_, rfl⟩
  rw [← he0] at HP0 HG0 HMM
  have HE0 := Lib.hid he0
  clear he0 hRr
  go_enter Tryz.func54, Tryz.ntmps54
  go_upto_region 1 with fail
  rw [← hw1]
  clear hw1 hcb
  go_upto_region 3 with fail
  have k0 := kp_cell (HC.out.cell 0)
  have k1 := kp_cell (HC.out.cell 1)
  have k2 := kp_cell (HC.out.cell 2)
  have k3 := kp_cell (HC.out.cell 3)
  have k4 := kp_cell (HC.out.cell 4)
  have hne := kp_ne w1
  refine wp_region_kp (by kernel_rfl) (by kernel_rfl) ?_
  repeat (go_big_quiet_step ((rename_i x; first
    | with_reducible exact kp_call x (linesK (HD.out.kp x.h))
    | with_reducible exact kp_call x ((HCk.out _).mono fun _ _ q => ⟨q.1, q.2.below0⟩))))
  with_reducible refine wpQuiet_nil ?_
  rintro _ ⟨y, rfl⟩
  have gy : Gr [] w1 y.w := Gr.ofBelow (cs := []) y.h
  have H2 := Lib.hid (And.intro (HC.out.gr0 gy) (And.intro (HD.out.gr0 gy) (HG.out.trans gy)))
  clear k0 k1 k2 k3 k4 hne gy HC HD HG HCk
  generalize y.w = w2 at *
  clear y
  go_wp2_with fail
  refine (HTx.out _).mono ?_
  rintro e w3 ⟨rfl, b3⟩
  have g3 := Gr.ofBelow (cs := []) b3
  have H3 := Lib.hid (And.intro (H2.out.1.gr0 g3) (And.intro (H2.out.2.1.gr0 g3) (H2.out.2.2.trans g3)))
  clear b3 g3 H2 HTx
  go_wp2_with fail
  with_reducible refine (HP0.out _ H3.out.2.1).mono ?_
  rintro e w4 ⟨rfl, d4, b4, g4⟩
  have H4 := Lib.hid (And.intro (H3.out.1.gr g4 HNB.out) (And.intro d4 (And.intro b4 ((H3.out.2.2.of0 (cs := a.all)).trans g4))))
  clear d4 b4 g4 H3 HP0
  by_cases hz0 : e0 = 0
  case neg =>
    have hM2 := HMM.out
    rw [if_pos hz0] at hM2
    have HM2 := Lib.hid hM2
    have hz' : (e0 != 0) = true := by simpa using hz0
    clear hM2 hz0
    go_wp2_with fail
    go_ret
    exact ⟨by rw [HM2.out, ← HE0.out]; rfl, by rw [HM2.out]; exact H4.out.2.1, by rw [HM2.out]; exact H4.out.2.2.1.mono (by omega), H4.out.2.2.2⟩
  subst hz0
  have hM2 := HMM.out
  rw [if_neg (by simp)] at hM2
  have HG1 := Lib.hid (HG0.out rfl)
  have HB1 := Lib.hid (show Bd X0.2 (c + 10) from H4.out.2.2.1)
  have HMM2 := Lib.hid hM2
  clear hM2 HMM HG0
  have c0 : w4.cell? ⟨cb, 0, none⟩ = some (.int .i64 (R : Int)) := H4.out.1.cell 0
  go_wp2_with fail
  clear c0
  go_loopw [28] (fun k wr => ∃ (j : Nat) (Dj : DevS), j ≤ R ∧ k = .int .i64 j ∧ Hid (makZ C (R - j) j Dj = X1) ∧ Hid (Gud n Dj) ∧ DevIs wr a Dj ∧ Bd Dj (c + 10 + 12000 * j) ∧ Holds wr cb #[.int .i64 (R : Int), .int .i64 C.l, .int .i64 C.s, .int .i64 C.psi, .int .u64 (C.key : Int)] 64 ∧ Gr a.all w wr) (fun k _ => R - (intOf k).toNat)
  case atStart => exact ⟨0, X0.2, by omega, rfl, Lib.hid (by rw [HX.out.1]; rfl), HG1, H4.out.2.1, HB1.out, H4.out.1, H4.out.2.2.2⟩
  case round =>
    obtain ⟨j, Dj, hj, rfl, hx', hg', hd', hb', hc', g'⟩ := hrel
    have HH := Lib.hid (And.intro hd' (And.intro hb' (And.intro hc' g')))
    clear hd' hb' g' hc' H4 HG1 HB1
    have c0 : wr.cell? ⟨cb, 0, none⟩ = some (.int .i64 (R : Int)) := HH.out.2.2.1.cell 0
    have c1 : wr.cell? ⟨cb, 1, none⟩ = some (.int .i64 C.l) := HH.out.2.2.1.cell 1
    have c2 : wr.cell? ⟨cb, 2, none⟩ = some (.int .i64 C.s) := HH.out.2.2.1.cell 2
    have c3 : wr.cell? ⟨cb, 3, none⟩ = some (.int .i64 C.psi) := HH.out.2.2.1.cell 3
    have c4 : wr.cell? ⟨cb, 4, none⟩ = some (.int .u64 (C.key : Int)) := HH.out.2.2.1.cell 4
    by_cases hjR : j < R
    · have ij : (j : Int) < (R : Int) := by omega
      have hR16 : R ≤ 16 := HR.out.2
      have HJ := Lib.hid (show j < cR C by rw [← HR.out.1]; exact hjR)
      obtain ⟨x1, x2, x3, x4⟩ := mak_step HOK.out HN.out HJ.out hg'.out
      have HF := Lib.hid (fun W (g : Gr [] wr W) => rgformat_gen (HOK.out.reg HJ.out).1 (HH.out.1.gr0 g) HH.out.2.1 (by have := HR.out.2; omega) x2 x1)
      obtain ⟨m, hm⟩ : ∃ m, R - j = m + 1 := ⟨R - j - 1, by omega⟩
      have hx2 := hx'.out
      rw [hm, makZ] at hx2
      obtain ⟨e1, he1⟩ : ∃ e, e = (rfmtZ (regC C j) Dj).1 := ⟨_, rfl⟩
      obtain ⟨D1, hD1⟩ : ∃ D1, D1 = (rfmtZ (regC C j) Dj).2 := ⟨_, rfl⟩
      rw [← he1, ← hD1] at HF
      obtain ⟨pv, hpv⟩ : ∃ v, v = planRV (regC C j) := ⟨_, rfl⟩
      rw [← hpv] at HF
      have HR1 := Lib.hid (fun W => by have := HRg.out j HJ.out W; rw [← hpv] at this; exact this)
      by_cases hz : e1 = 0
      · rw [if_neg (by rw [← he1]; simpa using hz), ← hD1] at hx2
        have HX2 := Lib.hid (show makZ C (R - (j + 1)) (j + 1) D1 = X1 by rw [show R - (j + 1) = m by omega]; exact hx2)
        have HGD := Lib.hid (show Gud n D1 by
          rcases x3 with ⟨E, b1, b2, _⟩ | ⟨E, b1, _⟩
          · rw [hD1, b1]; exact b2
          · rw [b1] at he1; rw [he1] at hz; simp at hz)
        clear hx2 hx' he1 hD1 hm hg' x1 x2 x3 x4 hpv
        subst hz
        go_wp2_with fail
        with_reducible refine (HR1.out _).mono ?_
        rintro e w5 ⟨rfl, g5⟩
        have HH5 := Lib.hid (And.intro g5 (HH.out.2.2.1.gr0 g5))
        clear g5 c0 c1 c2 c3 c4
        go_wp2_with fail
        with_reducible refine (HF.out _ HH5.out.1).mono ?_
        rintro e w6 ⟨rfl, hd6, hb6, g6⟩
        have H6 := Lib.hid (And.intro hd6 (And.intro hb6 (And.intro (HH5.out.2.gr g6 HNB.out) ((HH.out.2.2.2.next0 HH5.out.1).trans g6))))
        clear hd6 hb6 g6
        go_wp2_with fail
        go_roundw
        case rel => exact ⟨j + 1, D1, by omega, by go_num, HX2, HGD, H6.out.1, H6.out.2.1.mono (by omega), H6.out.2.2.1, H6.out.2.2.2⟩
        case measure => simp [intOf]; omega
      · rw [if_pos (by rw [← he1]; exact hz)] at hx2
        have hz' : (e1 != 0) = true := by simpa using hz
        have hM2 := HMM2.out
        rw [if_pos (by rw [← hx2, ← he1]; exact hz)] at hM2
        have HX2 := Lib.hid (show e1 = M.1 ∧ D1 = M.2 from ⟨by rw [he1, hM2, hx2], by rw [hD1, hM2, hx2]⟩)
        clear hx2 hx' he1 hD1 hm hz hM2 hg' x1 x2 x3 x4 hpv
        go_wp2_with fail
        with_reducible refine (HR1.out _).mono ?_
        rintro e w5 ⟨rfl, g5⟩
        have HH5 := Lib.hid g5
        clear g5 c0 c1 c2 c3 c4
        go_wp2_with fail
        with_reducible refine (HF.out _ HH5.out).mono ?_
        rintro e w6 ⟨rfl, hd6, hb6, g6⟩
        have H6 := Lib.hid (And.intro hd6 (And.intro hb6 ((HH.out.2.2.2.next0 HH5.out).trans g6)))
        clear hd6 hb6 g6
        go_wp2_with fail
        go_ret
        exact ⟨by rw [← HX2.out.1]; rfl, by rw [← HX2.out.2]; exact H6.out.1, by rw [← HX2.out.2]; exact H6.out.2.1.mono (by have := HR.out.2; omega), H6.out.2.2⟩
    · obtain rfl : j = R := by omega
      have ij : ¬ ((j : Int) < (j : Int)) := by omega
      have hx2 := hx'.out
      rw [Nat.sub_self, makZ] at hx2
      obtain ⟨hx3, hx4⟩ := pair_ne hx2
      have hM2 := HMM2.out
      rw [if_neg (by rw [← hx3]; simp)] at hM2
      have HPt := Lib.hid (fun W (d : DevIs W a Dj) => lput_any a Dj 0 S (c + 10 + 12000 * j) W d HH.out.2.1 (by have := HR.out.2; omega) HS64.out)
      have hX2 := HX.out.2
      rw [← hx4] at hX2
      rw [← hX2] at HPt
      obtain ⟨e2, he2⟩ : ∃ e, e = X2.1 := ⟨_, rfl⟩
      obtain ⟨D2, hD2⟩ : ∃ D, D = X2.2 := ⟨_, rfl⟩
      rw [← he2, ← hD2] at HPt hM2
      have hM3 : (e2 ≠ 0 → M = (e2, D2)) := fun q => by rw [hM2, if_pos q, he2, hD2]
      have hM4 : e2 = 0 → M = (if tookB D2 0 S = true then 0 else 10, D2) := fun q => by rw [hM2, if_neg (by rw [q]; simp)]
      have HM34 := Lib.hid (And.intro hM3 hM4)
      clear hx2 hx' hx3 hx4 hM2 hX2 he2 hD2 hM3 hM4 hg'
      go_wp2_with fail
      with_reducible refine (HHd.out _).mono ?_
      rintro e w5 ⟨rfl, g5⟩
      have H5 := Lib.hid (And.intro (HH.out.1.gr0 g5) (And.intro (HH.out.2.2.1.gr0 g5) (HH.out.2.2.2.next0 g5)))
      clear g5 c0 c1 c2 c3 c4 HH
      go_wp2_with fail
      with_reducible refine (HPt.out _ H5.out.1).mono ?_
      rintro e w6 ⟨rfl, d6, b6, g6⟩
      have H6 := Lib.hid (And.intro d6 (And.intro b6 (And.intro (H5.out.2.1.gr g6 HNB.out) (H5.out.2.2.trans g6))))
      clear d6 b6 g6 H5 HPt
      by_cases hz2 : e2 = 0
      · subst hz2
        have c0 : w6.cell? ⟨cb, 0, none⟩ = some (.int .i64 (j : Int)) := H6.out.2.2.1.cell 0
        have c1 : w6.cell? ⟨cb, 1, none⟩ = some (.int .i64 C.l) := H6.out.2.2.1.cell 1
        have c2 : w6.cell? ⟨cb, 2, none⟩ = some (.int .i64 C.s) := H6.out.2.2.1.cell 2
        have c3 : w6.cell? ⟨cb, 3, none⟩ = some (.int .i64 C.psi) := H6.out.2.2.1.cell 3
        have c4 : w6.cell? ⟨cb, 4, none⟩ = some (.int .u64 (C.key : Int)) := H6.out.2.2.1.cell 4
        have HTk := Lib.hid (fun W (d : DevIs W a D2) => took_any a D2 0 S W d HS64.out)
        obtain ⟨tk, htk⟩ : ∃ t, t = tookB D2 0 S := ⟨_, rfl⟩
        rw [← htk] at HTk
        have hM5 := HM34.out.2 rfl
        rw [← htk] at hM5
        have HM5 := Lib.hid hM5
        clear hM5 htk HM34
        go_wp2_with fail
        with_reducible refine (HHd.out _).mono ?_
        rintro e w7 ⟨rfl, g7⟩
        have H7 := Lib.hid (And.intro (H6.out.1.gr0 g7) (H6.out.2.2.2.next0 g7))
        clear g7 c0 c1 c2 c3 c4
        cases tk with
        | true =>
          have hM6 := HM5.out
          rw [if_pos rfl] at hM6
          have HM6 := Lib.hid hM6
          clear hM6 HM5
          go_wp2_with fail
          with_reducible refine (HTk.out _ H7.out.1).mono ?_
          rintro e w8 ⟨rfl, g8⟩
          have H8 := Lib.hid (And.intro (H7.out.1.gr0 g8) (H7.out.2.next0 g8))
          clear g8
          go_wp2_with fail
          go_ret
          exact ⟨by rw [HM6.out]; rfl, by rw [HM6.out]; exact H8.out.1, by rw [HM6.out]; exact H6.out.2.1.mono (by have := HR.out.2; omega), H8.out.2⟩
        | false =>
          have hM6 := HM5.out
          rw [if_neg (by simp)] at hM6
          have HM6 := Lib.hid hM6
          clear hM6 HM5
          go_wp2_with fail
          with_reducible refine (HTk.out _ H7.out.1).mono ?_
          rintro e w8 ⟨rfl, g8⟩
          have H8 := Lib.hid (And.intro (H7.out.1.gr0 g8) (H7.out.2.next0 g8))
          clear g8
          go_wp2_with fail
          go_ret
          exact ⟨by rw [HM6.out]; rfl, by rw [HM6.out]; exact H8.out.1, by rw [HM6.out]; exact H6.out.2.1.mono (by have := HR.out.2; omega), H8.out.2⟩
      · have HM6 := Lib.hid (HM34.out.1 hz2)
        have hz' : (e2 != 0) = true := by simpa using hz2
        clear hz2 HM34
        go_wp2_with fail
        go_ret
        exact ⟨by rw [HM6.out]; rfl, by rw [HM6.out]; exact H6.out.1, by rw [HM6.out]; exact H6.out.2.1.mono (by have := HR.out.2; omega), H6.out.2.2.2⟩
end
end Go.Proofs.YtifekejcbhllpaaGreat

/-
  Layer 9: a list at work, told by what its lines have.
-/
namespace Go.Proofs.YtifekejcbhllpaaGreat
open Go.RowKit
set_option linter.unusedVariables false

structure FL (C : CfgZ) (A : FlA) (a : DevA) (g : Bool) (F : Nat → Nat → Nat) (V : FlV) (N : Nat) (w : World) : Prop where
  ok : OkC C
  st : ∃ (D : DevS) (B : Nat → BkS) (j c : Nat → Nat), FlD C g F V N D B j ∧ FlIs w A a C B (64 + N / 20) j c ∧ DevIs w a D
section
variable {w w' : World} {A : FlA} {a : DevA} {C : CfgZ} {g : Bool} {F F' : Nat → Nat → Nat} {V : FlV} {N : Nat}
theorem FL.lt (h : FL C A a g F V N w) : ∀ x ∈ A.all (cR C) ++ a.all, x < w.heap.size := by
  obtain ⟨ok, D, B, j, c, h1, h2, h3⟩ := h
  intro x hx
  rcases List.mem_append.1 hx with hx | hx
  · exact h2.lt x hx
  · exact h3.lt x hx
theorem FlD.congr {D : DevS} {B : Nat → BkS} {j : Nat → Nat} (h : FlD C g F V N D B j) (hF : ∀ l k, l < cR C * cL C → k < 8 → F l k = F' l k) : FlD C g F' V N D B j := by
  obtain ⟨G, L, hG⟩ := h.ls
  exact ⟨h.calm, h.gd, h.fit, ⟨G, L, fun l k hl hk => (hG l k hl hk).trans (hF l k hl hk)⟩, h.vs, h.mv, h.bd⟩
theorem FL.any (h : FL C A a g F V N w) : FL C A a false F V N w := by
  obtain ⟨ok, D, B, j, c, h1, h2, h3⟩ := h
  exact ⟨ok, D, B, j, c, ⟨h1.calm, (fun q => absurd q (by simp)), h1.fit, h1.ls, h1.vs, h1.mv, h1.bd⟩, h2, h3⟩
theorem FL.read (h : FL C A a g F V N w) (l : Nat) (hl : l < cR C * cL C) :
    Calls Tryz.prog 96 #[.pointer (some ⟨A.fb, 0, none⟩), .int .i64 (l : Int)] w fun e w' => e = .returned (.tuple #[.string (lnF F l), .int .i64 0]) ∧ Gr [] w w' := by
  obtain ⟨ok, D, B, j, c, h1, h2, h3⟩ := h
  have hr := (h1.read ok h3.ok.medB hl).1
  have := fread_in l h2 hl h3 h1.fit
  rw [hr] at this
  exact this
theorem FL.size (h : FL C A a g F V N w) (l : Nat) (hl : l < cR C * cL C) : (lnF F l).size = 64 ∧ ∀ k, k < 8 → wdL (lnF F l).data.toList k = F l k := by
  obtain ⟨ok, D, B, j, c, h1, h2, h3⟩ := h
  exact (h1.read ok h3.ok.medB hl).2
theorem FL.lines (h : FL C A a g F V N w) : Calls Tryz.prog 69 #[.pointer (some ⟨A.fb, 0, none⟩)] w fun e w' => e = .returned (.int .i64 ((cR C * cL C : Nat) : Int)) ∧ Gr [] w w' := by
  obtain ⟨ok, D, B, j, c, h1, h2, h3⟩ := h
  exact flines_in h2
theorem FL.config (h : FL C A a g F V N w) : Calls Tryz.prog 68 #[.pointer (some ⟨A.fb, 0, none⟩)] w fun e w' => e = .returned (cfgV C) ∧ Gr [] w w' := by
  obtain ⟨ok, D, B, j, c, h1, h2, h3⟩ := h
  exact fconfig_in h2
/-- A device that was just made a list of: all lines are noughts. -/
theorem fl_made {n : Nat} (hC : OkC C) (hn : sizeC C ≤ (n : Int)) {D : DevS} (hc : Calm D) (hg : Gud n D) : (makeZ C D).1 = 0 ∧ Gud n (makeZ C D).2 ∧ Calm (makeZ C D).2 ∧ (Bd (makeZ C D).2 N → FlD C true (fun _ _ => 0) (vOf C (fun _ => B0) (fun _ => 0) (iL C)) N (makeZ C D).2 (fun _ => B0) (fun _ => 0)) := by
  obtain ⟨m1, m2⟩ := make_last hC hn D hg
  obtain ⟨m3, m4⟩ := m2 hc
  rcases m1 with ⟨E, e1, e2, e3⟩ | ⟨E, e1, _⟩
  · rw [e1] at m4 ⊢
    simp only at m4 ⊢
    rw [calm_bare m4] at e3
    exact ⟨trivial, e2, m4, fun hb => ⟨m4, fun _ => e2.bad, by rw [e2.n]; exact hn, ⟨_, e3, fun _ _ _ _ => rfl⟩, rfl, fun _ _ => by omega, hb⟩⟩
  · rw [e1] at m3
    simp at m3
end
end Go.Proofs.YtifekejcbhllpaaGreat

/-
  A list at work on a calm device, none of its lines bad: how often each region moved on, and how often it was written since, are told.
-/
namespace Go.Proofs.YtifekejcbhllpaaGreat
open Go.RowKit
set_option linter.unusedVariables false

/-- How often regions moved on, behind a write in one. -/
def stJ10 (C : CfgZ) (q : Nat) (J c : Nat → Nat) : Nat → Nat := updN J q (if C.psi ≤ (c q : Int) then J q + 1 else J q)
def stC10 (C : CfgZ) (q : Nat) (c : Nat → Nat) : Nat → Nat := updN c q (if C.psi ≤ (c q : Int) then 1 else c q + 1)
theorem regZ_jc {P : PlanR} {i : Nat} {f : Int → DevS → BkS → Int × DevS × BkS} {D : DevS} {B : BkS} {j c : Nat} (h : (regZ P i f D B j c).1 = 0) : (regZ P i f D B j c).2.2.2.1 = (if P.psi ≤ (c : Int) then j + 1 else j) ∧ (regZ P i f D B j c).2.2.2.2 = (if P.psi ≤ (c : Int) then 1 else c + 1) := by
  unfold regZ at *
  by_cases hp : P.psi ≤ (c : Int)
  · rw [if_pos hp] at *
    by_cases hm : (movZ P D B j).1 = 0
    · rw [if_pos hm] at *
      exact ⟨by rw [if_pos hp], by rw [if_pos hp]; exact if_pos h⟩
    · rw [if_neg hm] at h
      exact absurd h hm
  · rw [if_neg hp] at *
    exact ⟨by rw [if_neg hp], by rw [if_neg hp]; exact if_pos h⟩
structure FLc (C : CfgZ) (A : FlA) (a : DevA) (g : Bool) (F : Nat → Nat → Nat) (V : FlV) (c : Nat → Nat) (N : Nat) (w : World) : Prop where
  ok : OkC C
  st : ∃ (D : DevS) (B : Nat → BkS) (j : Nat → Nat), FlD C g F V N D B j ∧ FlIs w A a C B (64 + N / 20) j c ∧ DevIs w a D
section
variable {w w' : World} {A : FlA} {a : DevA} {C : CfgZ} {g : Bool} {F F' : Nat → Nat → Nat} {V : FlV} {c0 : Nat → Nat} {N : Nat}
theorem FLc.fl (h : FLc C A a g F V c0 N w) : FL C A a g F V N w := by
  obtain ⟨ok, D, B, j, h1, h2, h3⟩ := h
  exact ⟨ok, D, B, j, c0, h1, h2, h3⟩
theorem FLc.gr {bs : List Nat} (h : FLc C A a g F V c0 N w) (k : Gr bs w w') (hn : ∀ x ∈ A.all (cR C) ++ a.all, x ∉ bs) : FLc C A a g F V c0 N w' := by
  obtain ⟨ok, D, B, j, h1, h2, h3⟩ := h
  exact ⟨ok, D, B, j, h1, h2.gr k (fun x hx => hn x (by simp [hx])), h3.gr k (fun x hx => hn x (by simp [hx]))⟩
theorem FLc.gr0 (h : FLc C A a g F V c0 N w) (k : Gr [] w w') : FLc C A a g F V c0 N w' := h.gr k (by simp)
theorem FLc.congr (h : FLc C A a g F V c0 N w) (hF : ∀ l k, l < cR C * cL C → k < 8 → F l k = F' l k) : FLc C A a g F' V c0 N w := by
  obtain ⟨ok, D, B, j, h1, h2, h3⟩ := h
  exact ⟨ok, D, B, j, h1.congr hF, h2, h3⟩
theorem FLc.more {N' : Nat} (h : FLc C A a g F V c0 N w) (hN : N ≤ N') : FLc C A a g F V c0 N' w := by
  obtain ⟨ok, D, B, j, h1, h2, h3⟩ := h
  exact ⟨ok, D, B, j, ⟨h1.calm, h1.gd, h1.fit, h1.ls, h1.vs, fun q hq => Nat.le_trans (h1.mv q hq) hN, h1.bd.mono hN⟩, h2.moreN (by omega), h3⟩
/-- A word's write: done, or no spare is left. -/
theorem FLc.word (h : FLc C A a true F V c0 N w) (hN : N < 490000000) (l k v : Nat) (hl : l < cR C * cL C) (hk : k < 8) (hv : v < 18446744073709551616) :
    Calls Tryz.prog 67 #[.pointer (some ⟨A.fb, 0, none⟩), .int .i64 (l : Int), .int .i64 (k : Int), .int .u64 (v : Int)] w fun e w' => ∃ V' : FlV, e = .returned (.int .i64 0) ∧ V'.J = stJ10 C (qL C l) V.J c0 ∧ FLc C A a true (fun l2 m => if l2 = l then updF (F l) k v m else F l2 m) V' (stC10 C (qL C l) c0) (N + 4200) w' ∧ Gr (A.all (cR C) ++ a.all) w w' := by
  obtain ⟨ok, D, B, j, h1, h2, h3⟩ := h
  have hvs := h1.vs
  obtain ⟨Gf, L, hF⟩ := h1.ls
  obtain ⟨hq, hi⟩ := qi_in ok hl
  obtain ⟨r1, r2, r3, r4, r5, r6, r7, r8⟩ := ok.reg hq
  have hj := h1.mv _ hq
  have hcb := calm_bare h1.calm
  have hrg : RgC (regC C (qL C l)) (bare D) (B (qL C l)) (j (qL C l)) (Gf (qL C l)) := by rw [hcb]; exact L.rg _ hq
  have hmed := h3.ok.medB
  have hFb : ∀ k, k < 8 → Gf (qL C l) (iL C l) k < 18446744073709551616 := fun k hk => by rw [hF l k hl hk]; exact h1.word ok hmed hl hk
  have ho := reg_word r1 h1.calm.live hmed hrg (by omega) (by rw [r4]; exact hi) hk hv hFb (c0 (qL C l))
  obtain ⟨u1, u2, u3⟩ := reg_used (f := fun z => writeWordS (bankR (regC C (qL C l))) z (k : Int) v) r1 h1.calm hmed (L.rg _ hq) (by omega) (show iL C l < (regC C (qL C l)).l by rw [r4]; exact hi) (c0 (qL C l)) (fun D B j hc h => word_used r1 (by rw [r4]; exact hi) hk hv hFb D B j hc h)
  refine (fww_in l k v h2 hl h3 h1.bd (by omega) (by omega) hk hv (by omega) h1.fit (fun hc => ?_)).mono ?_
  · obtain ⟨m1, m2, m3, _⟩ := move_last r1 h1.calm.live hmed hrg (by omega)
    exact ⟨m1, m2, m3⟩
  · rintro e w2 ⟨rfl, d2, b2, f2, g2⟩
    obtain ⟨⟨x, E, B', j', c'⟩, hX⟩ : ∃ X, regZ (regC C (qL C l)) (iL C l) (fun z => writeWordS (bankR (regC C (qL C l))) z (k : Int) v) D (B (qL C l)) (j (qL C l)) (c0 (qL C l)) = X := ⟨_, rfl⟩
    rw [hX] at ho u1 u2 u3 d2 b2 f2 ⊢
    simp only at ho u1 u2 u3 d2 b2 f2 ⊢
    have hx : x = 0 := u3 (h1.gd rfl)
    obtain ⟨e1, e2⟩ := regZ_jc (P := regC C (qL C l)) (i := iL C l) (f := fun z => writeWordS (bankR (regC C (qL C l))) z (k : Int) v) (D := D) (B := B (qL C l)) (j := j (qL C l)) (c := c0 (qL C l)) (by rw [hX]; exact hx)
    rw [hX] at e1 e2
    simp only at e1 e2
    rw [r6] at e1 e2
    subst hx
    refine ⟨vOf C (updN B (qL C l) B') (updN j (qL C l) j') (iL C), rfl, ?_, ⟨ok, E, _, _, FlD.next ok h1 hl u1 b2 (by omega) L hF ho (by omega) (H := updF (F l) k v) (fun X hX m hm => by rw [hX.1 rfl m hm]; exact updF_congr (hF l m hl hm)), ?_, d2⟩, g2⟩
    · show updN j (qL C l) j' = stJ10 C (qL C l) V.J c0
      rw [hvs, e1]
      rfl
    · unfold stC10
      rw [← e2]
      exact f2.moreN (by omega)
/-- A list is opened: no region was written since it moved on. -/
theorem flc_open {D : DevS} {B : Nat → BkS} {j : Nat → Nat} (hC : OkC C) (h : FlD C g F V N D B j) (hN : N < 500000000) (h3 : DevIs w a D) :
    Calls Tryz.prog 55 #[.pointer (some ⟨a.bd, 0, none⟩)] w fun e w' => ∃ A : FlA, e = .returned (.tuple #[.pointer (some ⟨A.fb, 0, none⟩), .int .i64 0]) ∧ FLc C A a g F V (fun _ => 0) N w' ∧ (∀ x ∈ A.all (cR C), w.heap.size ≤ x) ∧ Gr [] w w' := by
  obtain ⟨G, L, hG⟩ := h.ls
  refine (fopen_ok h3 hC h.fit h.calm L (fun q hq => by have := h.mv q hq; omega)).mono ?_
  rintro e w2 ⟨A, rfl, f2, n2, g2⟩
  exact ⟨A, rfl, ⟨hC, D, B, j, h, f2.moreN (by omega), h3.gr0 g2⟩, n2, g2⟩
end
end Go.Proofs.YtifekejcbhllpaaGreat

/-
  Layer 10, pure: heaps of keys; how many pages.
-/
namespace Go.Proofs.YtifekejcbhllpaaGreat
open Go.RowKit
set_option linter.unusedVariables false

def swapK (K : Nat → Nat) (i j : Nat) : Nat → Nat := fun k => if k = i then K j else if k = j then K i else K k
/-- A heap from a place on. -/
def Hp (K : Nat → Nat) (n i0 : Nat) : Prop := ∀ p c, i0 ≤ p → c < n → (c = 2 * p + 1 ∨ c = 2 * p + 2) → K p ≤ K c
/-- A heap but for one place. -/
def HpX (K : Nat → Nat) (n i0 i : Nat) : Prop := (∀ p c, i0 ≤ p → p ≠ i → c < n → (c = 2 * p + 1 ∨ c = 2 * p + 2) → K p ≤ K c) ∧ ∀ p c, i0 ≤ p → (i = 2 * p + 1 ∨ i = 2 * p + 2) → c < n → (c = 2 * i + 1 ∨ c = 2 * i + 2) → K p ≤ K c
def ImgK (K : Nat → Nat) (n v : Nat) : Prop := ∃ k, k < n ∧ K k = v
section
variable {K : Nat → Nat} {n i0 i j v : Nat}
theorem swapK_l : swapK K i j i = K j := if_pos rfl
theorem swapK_r : swapK K i j j = K i := by
  unfold swapK
  by_cases h : j = i
  · rw [if_pos h, h]
  · rw [if_neg h, if_pos rfl]
theorem swapK_o {k : Nat} (h1 : k ≠ i) (h2 : k ≠ j) : swapK K i j k = K k := by unfold swapK; rw [if_neg h1, if_neg h2]
theorem Hp.start (h : Hp K n (i0 + 1)) : HpX K n i0 i0 :=
  ⟨fun p c h0 h1 h2 h3 => h p c (by omega) h2 h3, fun p c h0 h1 h2 h3 => by omega⟩
theorem HpX.stop (h : HpX K n i0 i) (hc : ∀ c, c < n → (c = 2 * i + 1 ∨ c = 2 * i + 2) → K i ≤ K c) : Hp K n i0 := by
  intro p c h0 h1 h2
  by_cases e : p = i
  · subst e
    exact hc c h1 h2
  · exact h.1 p c h0 e h1 h2
theorem HpX.step (h : HpX K n i0 i) (hi : i0 ≤ i) (hj : j < n) (hji : j = 2 * i + 1 ∨ j = 2 * i + 2) (hlt : K j < K i) (hc : ∀ c, c < n → (c = 2 * i + 1 ∨ c = 2 * i + 2) → K j ≤ K c) : HpX (swapK K i j) n i0 j := by
  refine ⟨fun p c h0 h1 h2 h3 => ?_, fun p c h0 h1 h2 h3 => ?_⟩
  · by_cases e : p = i
    · subst e
      rw [swapK_l]
      by_cases e2 : c = j
      · subst e2
        rw [swapK_r]
        omega
      · rw [swapK_o (by omega) e2]
        exact hc c h2 h3
    · rw [swapK_o e h1]
      by_cases e2 : c = i
      · subst e2
        rw [swapK_l]
        exact h.2 p j h0 h3 hj hji
      · rw [swapK_o e2 (by omega)]
        exact h.1 p c h0 e h2 h3
  · obtain rfl : p = i := by omega
    rw [swapK_l, swapK_o (by omega) (by omega)]
    exact h.1 j c (by omega) (by omega) h2 h3
theorem img_swap (hi : i < n) (hj : j < n) : ImgK (swapK K i j) n v ↔ ImgK K n v := by
  constructor
  · rintro ⟨k, hk, e⟩
    by_cases e1 : k = i
    · subst e1
      rw [swapK_l] at e
      exact ⟨j, hj, e⟩
    · by_cases e2 : k = j
      · subst e2
        rw [swapK_r] at e
        exact ⟨i, hi, e⟩
      · rw [swapK_o e1 e2] at e
        exact ⟨k, hk, e⟩
  · rintro ⟨k, hk, e⟩
    by_cases e1 : k = i
    · subst e1
      exact ⟨j, hj, by rw [swapK_r]; exact e⟩
    · by_cases e2 : k = j
      · subst e2
        exact ⟨i, hi, by rw [swapK_l]; exact e⟩
      · exact ⟨k, hk, by rw [swapK_o e1 e2]; exact e⟩
theorem Hp.top (h : Hp K n 0) : ∀ k, k < n → K 0 ≤ K k := by
  intro k
  induction k using Nat.strongRecOn with
  | _ k ih =>
    intro hk
    by_cases h0 : k = 0
    · rw [h0]; exact Nat.le_refl _
    · have h1 := ih ((k - 1) / 2) (by omega) (by omega)
      have h2 := h ((k - 1) / 2) k (by omega) hk (by omega)
      omega
end
/-- The greatest number of pages that leaves as many frames. -/
def pgN (rest : Nat) : Nat → Nat
  | 0 => 0
  | g + 1 => if g + 1 + (g + 64) / 64 ≤ rest then g + 1 else pgN rest g
theorem pgN_le (rest : Nat) : ∀ g, pgN rest g ≤ g
  | 0 => Nat.le_refl _
  | g + 1 => by
    unfold pgN
    split
    · exact Nat.le_refl _
    · have := pgN_le rest g; omega
theorem pgN_fit (rest : Nat) : ∀ g, 0 < pgN rest g → pgN rest g + (pgN rest g + 63) / 64 ≤ rest
  | 0 => fun h => absurd h (by show ¬ 0 < 0; omega)
  | g + 1 => by
    unfold pgN
    split
    · rename_i h
      intro _
      have : (g + 1 + 63) / 64 = (g + 64) / 64 := by congr 1
      omega
    · exact pgN_fit rest g
end Go.Proofs.YtifekejcbhllpaaGreat
