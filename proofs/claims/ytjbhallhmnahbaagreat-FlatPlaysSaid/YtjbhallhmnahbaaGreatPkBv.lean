/-
  PkBv: FmB, FpI, FpJ.
-/
import Derived.Test.YtjbhallhmnahbaaGreatPkBu
import Derived.Test.YtjbhallhmnahbaaGreatPkBq
import Derived.Deep.RegionLaw
import Derived.Deep.AppendLies

set_option linter.unusedVariables false

/-
  FlatMakes: the document's Check and Size of a config: what the program's are.
-/
namespace Go.Proofs.YtjbhallhmnahbaaGreat
open Go.RowKit
set_option linter.unusedVariables false

theorem check9_no {C : CfgZ} {n : Int} (h : ¬ (1 ≤ C.r ∧ C.r ≤ 16 ∧ okP C)) : checkC C n = 2 := by
  unfold checkC sizeC
  rw [if_neg h, if_pos rfl]
theorem check9_ok {C : CfgZ} {n : Int} (h : 1 ≤ C.r ∧ C.r ≤ 16 ∧ okP C) : sizeC C = 1 + C.r * regS C ∧ 1 ≤ sizeC C ∧ checkC C n = if n < 1 + C.r * regS C then 3 else 0 := by
  have hb := mul_b C (k := C.r) (by omega) h.2.1
  have hs : sizeC C = 1 + C.r * regS C := by unfold sizeC; rw [if_pos h]
  refine ⟨hs, by omega, ?_⟩
  unfold checkC
  rw [if_neg (by omega), hs]
set_option maxRecDepth 100000 in
set_option maxHeartbeats 8000000 in
theorem rsize9 (C : CfgZ) (h : 1 ≤ C.r ∧ C.r ≤ 16 ∧ okP C) (w : World) : Calls Tryz.prog 9 #[cfgV C] w fun e w' => e = .returned (.int .i64 (sizeC C)) ∧ Gr [] w w' := by
  have HP := Lib.hid (fun W => rplan9 C h.2.2 C.r ⟨by omega, h.2.1⟩ W)
  obtain ⟨z, hz⟩ : ∃ z, z = sizeC C := ⟨_, rfl⟩
  rw [← (check9_ok (n := 0) h).1, ← hz] at HP
  rw [← hz]
  clear hz h
  obtain ⟨R, l, s, psi, key⟩ := C
  unfold cfgV at HP ⊢
  have hh := Holds.new w #[.int .i64 R, .int .i64 l, .int .i64 s, .int .i64 psi, .int .u64 (key : Int)] 26
  have HG := Lib.hid ((Gr.refl [] w).alloc (Obj.cells #[.int .i64 R, .int .i64 l, .int .i64 s, .int .i64 psi, .int .u64 (key : Int)] 26))
  go_enter Tryz.func9, Tryz.ntmps9
  go_upto_region 1 with fail
  generalize (w.alloc (Obj.cells #[.int .i64 R, .int .i64 l, .int .i64 s, .int .i64 psi, .int .u64 (key : Int)] 26)) = w1 at *
  obtain ⟨cb, hcb⟩ : ∃ cb, w.heap.size = cb := ⟨_, rfl⟩
  rw [hcb] at hh ⊢
  clear hcb
  have c0 := hh.cell 0
  have c1 := hh.cell 1
  have c2 := hh.cell 2
  have c3 := hh.cell 3
  have c4 := hh.cell 4
  clear hh
  go_wp2_with fail
  with_reducible refine (HP.out _).mono ?_
  rintro e w2 ⟨rfl, g2⟩
  have hp := Holds.new w2 #[.int .i64 z, .int .i64 l, .int .i64 s, .int .i64 psi] 57
  have HG2 := Lib.hid ((HG.out.trans g2).alloc (Obj.cells #[.int .i64 z, .int .i64 l, .int .i64 s, .int .i64 psi] 57))
  clear g2 c0 c1 c2 c3 c4 HG
  go_upto_region 2 with fail
  generalize (w2.alloc (Obj.cells #[.int .i64 z, .int .i64 l, .int .i64 s, .int .i64 psi] 57)) = w3 at *
  obtain ⟨pb, hpb⟩ : ∃ pb, w2.heap.size = pb := ⟨_, rfl⟩
  rw [hpb] at hp ⊢
  clear hpb
  have p0 := hp.cell 0
  clear hp
  go_wp2_with fail
  go_ret
  exact ⟨rfl, HG2.out⟩
set_option maxRecDepth 100000 in
set_option maxHeartbeats 16000000 in
theorem rcheck9 (C : CfgZ) (n : Int) (w : World) : Calls Tryz.prog 35 #[cfgV C, .int .i64 n] w fun e w' => e = .returned (.int .i64 (checkC C n)) ∧ Gr [] w w' := by
  have HC := Lib.hid (fun W => rchkG9 0 C.l C.s C.psi 1000000 W)
  obtain ⟨ck, hck⟩ : ∃ ck, ck = checkC C n := ⟨_, rfl⟩
  rw [← hck]
  have HCK := Lib.hid hck
  have HOk := Lib.hid (fun (h : okP C) => rchk9_ok h)
  have HNo := Lib.hid (fun (h : ¬ okP C) => rchk9_no h)
  obtain ⟨g, hg⟩ : ∃ g, g = rcheckG 0 C.l C.s C.psi 1000000 := ⟨_, rfl⟩
  rw [← hg] at HC HOk HNo
  have HSz := Lib.hid (fun (h : 1 ≤ C.r ∧ C.r ≤ 16 ∧ okP C) W => rsize9 C h W)
  have HNN := Lib.hid (fun (h : ¬ (1 ≤ C.r ∧ C.r ≤ 16 ∧ okP C)) => hck.trans (check9_no h))
  have HYY := Lib.hid (fun (h : 1 ≤ C.r ∧ C.r ≤ 16 ∧ okP C) => And.intro (check9_ok (n := n) h).1 (hck.trans (check9_ok h).2.2))
  clear hg hck HCK
  obtain ⟨ok, hok⟩ : ∃ ok : Prop, ok = okP C := ⟨_, rfl⟩
  rw [← hok] at HOk HNo HSz HNN HYY
  obtain ⟨zC, hzC⟩ : ∃ zC, zC = sizeC C := ⟨_, rfl⟩
  rw [← hzC] at HSz HYY
  obtain ⟨yC, hyC⟩ : ∃ yC, yC = 1 + C.r * regS C := ⟨_, rfl⟩
  rw [← hyC] at HYY
  clear hok hzC hyC
  obtain ⟨R, l, s, psi, key⟩ := C
  unfold cfgV at HSz ⊢
  simp only at HC HSz HNN HYY
  have hh := Holds.new w #[.int .i64 R, .int .i64 l, .int .i64 s, .int .i64 psi, .int .u64 (key : Int)] 26
  have HG := Lib.hid ((Gr.refl [] w).alloc (Obj.cells #[.int .i64 R, .int .i64 l, .int .i64 s, .int .i64 psi, .int .u64 (key : Int)] 26))
  go_enter Tryz.func35, Tryz.ntmps35
  go_upto_region 1 with fail
  generalize (w.alloc (Obj.cells #[.int .i64 R, .int .i64 l, .int .i64 s, .int .i64 psi, .int .u64 (key : Int)] 26)) = w1 at *
  obtain ⟨cb, hcb⟩ : ∃ cb, w.heap.size = cb := ⟨_, rfl⟩
  rw [hcb] at hh ⊢
  clear hcb
  have c1 := hh.cell 1
  have c2 := hh.cell 2
  have c3 := hh.cell 3
  go_upto_region 2 with fail
  have hp := Holds.new w1 #[.int .i64 0, .int .i64 l, .int .i64 s, .int .i64 psi] 57
  have ga := (Gr.refl [] w1).alloc (Obj.cells #[.int .i64 0, .int .i64 l, .int .i64 s, .int .i64 psi] 57)
  have H1 := Lib.hid (And.intro (hh.gr0 ga) (HG.out.trans ga))
  clear ga c1 c2 c3 hh HG
  generalize (w1.alloc (Obj.cells #[.int .i64 0, .int .i64 l, .int .i64 s, .int .i64 psi] 57)) = w2 at *
  obtain ⟨pb, hpb⟩ : ∃ pb, w1.heap.size = pb := ⟨_, rfl⟩
  rw [hpb] at hp ⊢
  clear hpb
  have p0 := hp.cell 0
  have p1 := hp.cell 1
  have p2 := hp.cell 2
  have p3 := hp.cell 3
  clear hp
  go_wp2_with fail
  refine (HC.out _).mono ?_
  rintro e w3 ⟨rfl, g3⟩
  have H3 := Lib.hid (And.intro (H1.out.1.gr0 g3) (H1.out.2.trans g3))
  clear g3 p0 p1 p2 p3 H1 HC
  have c0 := H3.out.1.cell 0
  have c1 := H3.out.1.cell 1
  have c2 := H3.out.1.cell 2
  have c3 := H3.out.1.cell 3
  have c4 := H3.out.1.cell 4
  by_cases ho : ok
  · have hg0 : g = 0 := HOk.out ho
    subst hg0
    by_cases i1 : R < 1
    · obtain rfl : ck = 2 := HNN.out (by omega)
      clear HOk HNo HSz HNN HYY ho
      go_wp2_with fail
      go_ret
      exact ⟨rfl, H3.out.2⟩
    · by_cases i2 : 16 < R
      · obtain rfl : ck = 2 := HNN.out (by omega)
        clear HOk HNo HSz HNN HYY ho
        go_wp2_with fail
        go_ret
        exact ⟨rfl, H3.out.2⟩
      · obtain ⟨hy1, hy2⟩ := HYY.out ⟨by omega, by omega, ho⟩
        have HS := Lib.hid (fun W => HSz.out ⟨by omega, by omega, ho⟩ W)
        rw [← hy1] at hy2
        by_cases i3 : n < zC
        · rw [if_pos i3] at hy2
          subst hy2
          clear HOk HNo HSz HNN HYY ho hy1
          go_wp2_with fail
          refine (HS.out _).mono ?_
          rintro e w4 ⟨rfl, g4⟩
          have H4 := Lib.hid (H3.out.2.trans g4)
          clear g4 c0 c1 c2 c3 c4 H3
          go_wp2_with fail
          go_ret
          exact ⟨rfl, H4.out⟩
        · rw [if_neg i3] at hy2
          subst hy2
          clear HOk HNo HSz HNN HYY ho hy1
          go_wp2_with fail
          refine (HS.out _).mono ?_
          rintro e w4 ⟨rfl, g4⟩
          have H4 := Lib.hid (H3.out.2.trans g4)
          clear g4 c0 c1 c2 c3 c4 H3
          go_wp2_with fail
          go_ret
          exact ⟨rfl, H4.out⟩
  · have hg0 : g = 2 := HNo.out ho
    subst hg0
    obtain rfl : ck = 2 := HNN.out (fun h => ho h.2.2)
    clear HOk HNo HSz HNN HYY ho
    go_wp2_with fail
    go_ret
    exact ⟨rfl, H3.out.2⟩
end Go.Proofs.YtjbhallhmnahbaaGreat

/-
  FlatPlays: the document's Make of a new device.
-/
namespace Go.Proofs.YtjbhallhmnahbaaGreat
open Go.RowKit
set_option linter.unusedVariables false

theorem MBB.fmt {p : PlanZ} : ∀ (r k : Nat) (D : DevS), MBB D → MBB (fmtZ p r k D).2
  | 0, _, D, h => h
  | r + 1, k, D, h => by
    rw [fmtZ]
    split
    · exact h.put _ _
    · exact MBB.fmt r (k + 1) _ (h.put _ _)
theorem MBB.rfmt {P : PlanR} (hP : OkR P) {D : DevS} (h : MBB D) : MBB (rfmtZ P D).2 := by
  unfold rfmtZ
  split
  · exact MBB.fmt _ _ _ h
  · exact (MBB.fmt _ _ _ h).ww (bankR P) 0 _ (by have := hP.l2; omega) (pkN_val hP 0 (by omega)).2
theorem make_calm {C : CfgZ} {n : Nat} (hC : OkC C) (hn : sizeC C ≤ (n : Int)) {D : DevS} (hc : Calm D) (g : Gud n D) : ∃ E1 E2 E3, putE D 0 zeroT = (0, E1) ∧ Calm E1 ∧ Gud n E1 ∧ makZ C (cR C) 0 E1 = (0, E2) ∧ putE E2 0 (headS C) = (0, E3) ∧ makeZ C D = (0, E3) ∧ (∀ k, k < 8 → E3.med k = wdL (headS C).data.toList k) ∧ E3.n = n := by
  have hb := mul_b C (k := C.r) (by have := hC.r1; omega) hC.r2
  have hs := hC.size
  obtain ⟨E1, e1, s1⟩ := put_calm (l := 0) hc (by rw [g.n]; omega) zeroT_size
  have e1' : putE D 0 zeroT = (0, E1) := e1
  have g1 : Gud n E1 := ⟨⟨s1.calm.off, s1.calm.buf⟩, s1.bad.trans g.bad, s1.n.trans g.n⟩
  obtain ⟨m1, m2⟩ := mak_last hC hn (cR C) 0 E1 (by omega) g1 (fun q hq => by omega)
  obtain ⟨n1, n2⟩ := m2 s1.calm
  obtain ⟨X, hX⟩ : ∃ X, makZ C (cR C) 0 E1 = X := ⟨_, rfl⟩
  obtain ⟨x, E2⟩ := X
  rw [hX] at n1 n2 m1
  simp only at n1 n2
  subst n1
  have g2 : Gud n E2 := by
    rcases m1 with ⟨E, q, a, _⟩ | ⟨E, q, _⟩
    · cases q; exact a
    · cases q
  obtain ⟨E3, e3, s3⟩ := put_calm (l := 0) n2 (by rw [g2.n]; omega) (headS_size C)
  have e3' : putE E2 0 (headS C) = (0, E3) := e3
  have hw : ∀ k, k < 8 → E3.med k = wdL (headS C).data.toList k := fun k hk => by
    rw [s3.med, if_pos ⟨by omega, by omega, by rw [g2.bad]⟩]
    rfl
  refine ⟨E1, E2, E3, e1', s1.calm, g1, hX, e3', ?_, hw, s3.n.trans g2.n⟩
  unfold makeZ
  rw [e1', if_neg (by simp)]
  simp only
  rw [hX, if_neg (by simp)]
  simp only
  rw [e3', if_neg (by simp)]
  simp only
  have ht : tookB E3 0 (headS C) = true := took_of (l := 0) (by rw [s3.n, g2.n]; omega) (headS_size C) fun k hk => by rw [Nat.mul_zero, Nat.zero_add]; exact hw k hk
  rw [if_pos ht]
set_option maxRecDepth 100000 in
set_option maxHeartbeats 16000000 in
theorem rmake9 {w : World} {r : RefA} {C : CfgZ} {n : Nat} (hC : OkC C) (hR : cR C ≤ 3) (hn : sizeC C ≤ (n : Int)) (hn2 : n ≤ 8192) (h : RefIs w r (newD n)) :
    Calls Tryz.prog 14 #[.pointer (some ⟨r.rd, 0, none⟩), cfgV C] w fun e w' => e = .returned (.int .i64 0) ∧ RefIs w' r (makeZ C (newD n)).2 ∧ Gr r.all w w' := by
  obtain ⟨g1, g2, g3⟩ := newD_gud n
  obtain ⟨E1, E2, E3, e1, c1, k1, e2, e3, e4, hw, hn3⟩ := make_calm hC hn g2 g1
  have hmb0 : MBB (newD n) := ⟨fun x => by show 0 < _; omega, fun z p q => by cases q⟩
  have fu0 : Fu (newD n) 0 := ⟨g3, by show (0 : Int) ≤ 0; omega, by show (0 : Int) ≤ _; omega⟩
  have hmb1 : MBB E1 := by have := hmb0.put 0 zeroT; rw [e1] at this; exact this
  have fu1 : Fu E1 (10 + 12000 * 0) := by have := put_fu fu0 0 zeroT; rw [e1] at this; exact this.mono (by omega)
  have HCk := Lib.hid (fun W => show Calls Tryz.prog 35 #[.agg #[.int .i64 C.r, .int .i64 C.l, .int .i64 C.s, .int .i64 C.psi, .int .u64 (C.key : Int)], .int .i64 (n : Int)] W (fun e w' => e = .returned (.int .i64 0) ∧ Gr [] W w') from by have := rcheck9 C (n : Int) W; rw [hC.check hn] at this; exact this)
  have HPl := Lib.hid (fun (k : Nat) (hk : k < cR C) W => show Calls Tryz.prog 24 #[.agg #[.int .i64 C.r, .int .i64 C.l, .int .i64 C.s, .int .i64 C.psi, .int .u64 (C.key : Int)], .int .i64 (k : Int)] W (fun e w' => e = .returned (planRV (regC C k)) ∧ Gr [] W w') from by
    have := rplan9 C hC.ok (k : Int) ⟨by omega, by have := hC.nums; omega⟩ W
    rw [← regV_eq hC hk]
    exact this)
  have HHd := Lib.hid (fun W => show Calls Tryz.prog 52 #[.agg #[.int .i64 C.r, .int .i64 C.l, .int .i64 C.s, .int .i64 C.psi, .int .u64 (C.key : Int)]] W _ from rhead9 C hC.wf.2 W)
  have HP0 := Lib.hid (fun W (q : RefIs W r (newD n)) => show Calls Tryz.prog 50 #[.pointer (some ⟨r.rd, 0, none⟩), .int .i64 0, .string zeroT] W (fun e w' => e = .returned (.int .i64 0) ∧ RefIs w' r E1 ∧ Gr r.all W w') from by
    have := rput4_any r (newD n) 0 zeroT 0 W q fu0 (by omega) (by rw [zeroT_size]; unfold maxLen; omega)
    rw [e1] at this
    exact this)
  have HP2 := Lib.hid (fun W (q : RefIs W r E2) (fu : Fu E2 (10 + 12000 * cR C)) => show Calls Tryz.prog 50 #[.pointer (some ⟨r.rd, 0, none⟩), .int .i64 0, .string (headS C)] W (fun e w' => e = .returned (.int .i64 0) ∧ RefIs w' r E3 ∧ Gr r.all W w') from by
    have := rput4_any r E2 0 (headS C) _ W q fu (by omega) (by rw [headS_size]; unfold maxLen; omega)
    rw [e3] at this
    exact this)
  have HMd := Lib.hid (fun W (q : RefIs W r E3) (mb : MB E3) => show Calls Tryz.prog 53 #[.pointer (some ⟨r.rd, 0, none⟩), .int .i64 0] W (fun e w' => e = .returned (.string (headS C)) ∧ Gr [] W w') from by
    have := rmedia4_any r E3 0 W q (by rw [hn3]; have := hC.size; have := mul_b C (k := C.r) (by have := hC.r1; omega) hC.r2; omega) mb
    have hm : (⟨(medT E3 0).toArray⟩ : ByteArray) = headS C := bytes_eq (medS_size E3 0) (headS_size C) fun k hk => (medS_word mb 0 k hk).trans (by rw [Nat.mul_zero, Nat.zero_add, hw k hk])
    rw [hm] at this
    exact this)
  have hstep : ∀ (k : Nat) (Dk : DevS), k < cR C → Calm Dk → Gud n Dk → (rfmtZ (regC C k) Dk).1 = 0 ∧ Calm (rfmtZ (regC C k) Dk).2 ∧ Gud n (rfmtZ (regC C k) Dk).2 := fun k Dk hk hc hg => by
    obtain ⟨_, _, a3, a4⟩ := mak_step hC hn hk hg
    obtain ⟨b1, b2⟩ := a4 hc
    rcases a3 with ⟨E, q, q2, _⟩ | ⟨E, q, _⟩
    · rw [q] at b1 b2 ⊢
      exact ⟨rfl, b2, q2⟩
    · rw [q] at b1
      simp at b1
  have HSt := Lib.hid hstep
  have HOK := Lib.hid hC
  have HFit := Lib.hid (show ∀ (k : Nat) (Dk : DevS), k < cR C → Gud n Dk → (bankR (regC C k)).a + sizeZ (bankR (regC C k)) ≤ (Dk.n : Int) from fun k Dk hk hg => by
    obtain ⟨r1, r2, r3, r4, r5, r6, r7, r8⟩ := hC.reg hk
    rw [hg.n, r2]
    show (regC C k).a + regS C ≤ _
    omega)
  have HE2 := Lib.hid (And.intro e2 (And.intro e3 (show makeZ C (newD n) = (0, E3) from e4)))
  rw [e4]
  obtain ⟨R, hRe⟩ : ∃ R, R = cR C := ⟨_, rfl⟩
  have hRr : C.r = (R : Int) := by rw [hRe]; exact hC.nums.1.symm
  rw [← hRe] at hR HP2
  have HRe := Lib.hid hRe
  have HR3 := Lib.hid hR
  have HD := Lib.hid h
  have HG0 := Lib.hid (And.intro c1 (And.intro k1 (And.intro hmb1 fu1)))
  rw [hRr] at HCk HPl HHd
  unfold cfgV
  rw [hRr]
  have HX := Lib.hid (Holds.new w #[.int .i64 (R : Int), .int .i64 C.l, .int .i64 C.s, .int .i64 C.psi, .int .u64 (C.key : Int)] 26)
  have HG := Lib.hid ((Gr.refl [] w).alloc (Obj.cells #[.int .i64 (R : Int), .int .i64 C.l, .int .i64 C.s, .int .i64 C.psi, .int .u64 (C.key : Int)] 26))
  have HNB := Lib.hid (show w.heap.size ∉ r.all from fun e => by have := h.lt _ e; omega)
  clear g1 g2 g3 e1 c1 k1 e2 e3 e4 hw hn3 hmb0 fu0 hmb1 fu1 hstep hC hR hn hn2 h hRe
  obtain ⟨H, hH⟩ : ∃ H, H = headS C := ⟨_, rfl⟩
  rw [← hH] at HHd HP2 HMd HE2
  clear hH
  go_enter Tryz.func14, Tryz.ntmps14
  go_upto_region 1 with fail
  generalize (w.alloc (Obj.cells #[.int .i64 (R : Int), .int .i64 C.l, .int .i64 C.s, .int .i64 C.psi, .int .u64 (C.key : Int)] 26)) = w1 at *
  obtain ⟨cb, hcb⟩ : ∃ cb, w.heap.size = cb := ⟨_, rfl⟩
  rw [hcb] at HX HNB ⊢
  clear hcb
  have H1 := Lib.hid (HD.out.gr0 HG.out)
  have k0 := kp_cell (a := ⟨cb, 0, none⟩) (show w1.cell? ⟨cb, 0, none⟩ = some (.int .i64 (R : Int)) from HX.out.cell 0)
  have k1 := kp_cell (a := ⟨cb, 1, none⟩) (show w1.cell? ⟨cb, 1, none⟩ = some (.int .i64 C.l) from HX.out.cell 1)
  have k2 := kp_cell (a := ⟨cb, 2, none⟩) (show w1.cell? ⟨cb, 2, none⟩ = some (.int .i64 C.s) from HX.out.cell 2)
  have k3 := kp_cell (a := ⟨cb, 3, none⟩) (show w1.cell? ⟨cb, 3, none⟩ = some (.int .i64 C.psi) from HX.out.cell 3)
  have k4 := kp_cell (a := ⟨cb, 4, none⟩) (show w1.cell? ⟨cb, 4, none⟩ = some (.int .u64 (C.key : Int)) from HX.out.cell 4)
  have k5 := kp_cell (a := ⟨r.rd, 1, none⟩) H1.out.c1
  have hne := kp_ne w1
  have hnn : (newD n).n = n := rfl
  refine wp_region_kp (by kernel_rfl) (by kernel_rfl) ?_
  repeat (go_big_quiet_step ((rename_i x; exact kp_call x ((HCk.out _).mono fun _ _ q => ⟨q.1, q.2.below0⟩))))
  with_reducible refine wpQuiet_nil ?_
  rintro _ ⟨y, rfl⟩
  have gy : Gr [] w1 y.w := Gr.ofBelow (cs := []) y.h
  have H2 := Lib.hid (And.intro (H1.out.gr0 gy) (And.intro (HX.out.gr0 gy) (HG.out.trans gy)))
  clear k0 k1 k2 k3 k4 k5 hne gy H1 HX HG HCk hnn
  generalize y.w = w2 at *
  clear y
  go_upto_region 4 with fail
  have hmk := zero_make w2
  have hcv := zero_conv w2
  have ga := (Gr.refl [] w2).alloc (Obj.cells (rowOf (fun _ => .int .u8 0) 64) 5)
  have H3 := Lib.hid (And.intro (H2.out.1.gr0 ga) (And.intro (H2.out.2.1.gr0 ga) (H2.out.2.2.trans ga)))
  obtain ⟨Z, hZ⟩ : ∃ Z, Z = zeroT := ⟨_, rfl⟩
  have HZ := Lib.hid hZ
  rw [← hZ] at hcv HP0
  clear hZ ga H2
  generalize hrow : rowOf (fun _ => Value.int .u8 0) 64 = Rw at *
  clear hrow
  go_wp2_with fail
  generalize (w2.alloc (Obj.cells Rw 5)) = w3 at *
  clear hmk hcv
  refine (HP0.out _ H3.out.1).mono ?_
  rintro e w4 ⟨rfl, r4, g4⟩
  have H4 := Lib.hid (And.intro r4 (And.intro (H3.out.2.1.gr g4 HNB.out) (H3.out.2.2.of0.trans g4)))
  clear r4 g4 H3 HP0
  go_wp2_with fail
  go_loopw [5, 7] (fun ev kv wr => ∃ (k : Nat) (Dk : DevS), k ≤ R ∧ ev = .int .i64 0 ∧ kv = .int .i64 (k : Int) ∧ (RefIs wr r Dk ∧ Calm Dk ∧ Gud n Dk ∧ MBB Dk ∧ Fu Dk (10 + 12000 * k) ∧ makZ C (R - k) k Dk = makZ C R 0 E1) ∧ Holds wr cb #[.int .i64 (R : Int), .int .i64 C.l, .int .i64 C.s, .int .i64 C.psi, .int .u64 (C.key : Int)] 26 ∧ Gr r.all w wr) (fun _ kv _ => R - (intOf kv).toNat)
  case atStart => exact ⟨0, E1, by omega, rfl, rfl, ⟨H4.out.1, HG0.out.1, HG0.out.2.1, HG0.out.2.2.1, HG0.out.2.2.2, rfl⟩, H4.out.2.1, H4.out.2.2⟩
  case round =>
    obtain ⟨k, Dk, hk, rfl, rfl, ⟨hd, hcl, hgd, hmb, hfu, hmz⟩, hx, hg⟩ := hrel
    have HX := Lib.hid (And.intro hd (And.intro hx hg))
    have HJ := Lib.hid (And.intro hcl (And.intro hgd (And.intro hmb (And.intro hfu hmz))))
    clear hd hcl hgd hmb hfu hmz hx hg H4
    have c0 := HX.out.2.1.cell 0
    by_cases hkR : k < R
    · have ik : (k : Int) < (R : Int) := by omega
      have HK := Lib.hid (show k < cR C by rw [← HRe.out]; exact hkR)
      have HKR := Lib.hid hkR
      have c1 := HX.out.2.1.cell 1
      have c2 := HX.out.2.1.cell 2
      have c3 := HX.out.2.1.cell 3
      have c4 := HX.out.2.1.cell 4
      have HP1 := Lib.hid (fun W => HPl.out k HK.out W)
      obtain ⟨s1, s2, s3⟩ := HSt.out k Dk HK.out HJ.out.1 HJ.out.2.1
      have hP := (HOK.out.reg HK.out).1
      have HFm := Lib.hid (fun W (q : RefIs W r Dk) => rformat79 hP q HJ.out.1 HJ.out.2.1.bad HJ.out.2.2.1.1 (HFit.out k Dk HK.out HJ.out.2.1) HJ.out.2.2.2.1 (by have := HR3.out; omega))
      have HN := Lib.hid (And.intro s2 (And.intro s3 (And.intro (HJ.out.2.2.1.rfmt hP) (show makZ C (R - (k + 1)) (k + 1) (rfmtZ (regC C k) Dk).2 = makZ C R 0 E1 by
        rw [← HJ.out.2.2.2.2, show R - k = (R - (k + 1)) + 1 by omega]
        conv => rhs; rw [makZ]
        rw [if_neg (by rw [s1]; simp)]))))
      obtain ⟨pa, pl, ps, pp, hpv⟩ : ∃ pa pl ps pp : Int, planRV (regC C k) = .agg #[.int .i64 pa, .int .i64 pl, .int .i64 ps, .int .i64 pp] := ⟨_, _, _, _, rfl⟩
      rw [hpv] at HP1 HFm
      generalize (rfmtZ (regC C k) Dk).2 = Dn at *
      clear hpv hk hkR s1 s2 s3 hP
      have hw : IntKind.i64.wrap ((k : Int) + 1) = (k : Int) + 1 := IntWalk.i64_in _ (by have := HR3.out; have := HKR.out; omega)
      go_wp2_with fail
      refine (HP1.out _).mono ?_
      rintro e w5 ⟨rfl, g5⟩
      have hp5 := Holds.new w5 #[.int .i64 pa, .int .i64 pl, .int .i64 ps, .int .i64 pp] 57
      have ga := (Gr.refl [] w5).alloc (Obj.cells #[.int .i64 pa, .int .i64 pl, .int .i64 ps, .int .i64 pp] 57)
      have H5 := Lib.hid (And.intro ((HX.out.1.gr0 g5).gr0 ga) (And.intro ((HX.out.2.1.gr0 g5).gr0 ga) (And.intro ((HX.out.2.2.trans g5.of0).trans ga.of0) hp5)))
      clear g5 hp5 ga c0 c1 c2 c3 c4 HX HP1
      go_upto_region 10 with fail
      generalize (w5.alloc (Obj.cells #[.int .i64 pa, .int .i64 pl, .int .i64 ps, .int .i64 pp] 57)) = w6 at *
      obtain ⟨pb, hpb⟩ : ∃ pb, w5.heap.size = pb := ⟨_, rfl⟩
      rw [hpb] at H5 ⊢
      clear hpb
      have p0 := H5.out.2.2.2.cell 0
      have p1 := H5.out.2.2.2.cell 1
      have p2 := H5.out.2.2.2.cell 2
      have p3 := H5.out.2.2.2.cell 3
      go_wp2_with fail
      refine (HFm.out _ H5.out.1).mono ?_
      rintro e w7 ⟨rfl, ⟨r7, f7⟩, g7⟩
      have H7 := Lib.hid (And.intro r7 (And.intro (H5.out.2.1.gr g7 HNB.out) (And.intro (H5.out.2.2.1.trans g7) f7)))
      clear r7 f7 g7 p0 p1 p2 p3 H5 HFm
      go_wp2_with fail
      go_roundw
      case rel => exact ⟨k + 1, Dn, HKR.out, rfl, by go_num, ⟨H7.out.1, HN.out.1, HN.out.2.1, HN.out.2.2.1, H7.out.2.2.2.mono (by omega), HN.out.2.2.2⟩, H7.out.2.1, H7.out.2.2.1⟩
      case measure => have := HKR.out; simp [intOf]; omega
    · obtain rfl : k = R := by omega
      have ik : ¬ ((k : Int) < (k : Int)) := by omega
      have hE2 : Dk = E2 := by
        have := HJ.out.2.2.2.2
        rw [Nat.sub_self, HRe.out, HE2.out.1] at this
        exact (Prod.mk.inj this).2
      have HDk := Lib.hid hE2
      have c1 := HX.out.2.1.cell 1
      have c2 := HX.out.2.1.cell 2
      have c3 := HX.out.2.1.cell 3
      have c4 := HX.out.2.1.cell 4
      clear hE2
      go_wp2_with fail
      refine (HHd.out _).mono ?_
      rintro e w5 ⟨rfl, g5⟩
      have H5 := Lib.hid (And.intro (HX.out.1.gr0 g5) (HX.out.2.2.trans g5.of0))
      clear g5 c0 c1 c2 c3 c4 HX
      go_wp2_with fail
      refine (HP2.out _ (by have := H5.out.1; rw [HDk.out] at this; exact this) (by have := HJ.out.2.2.2.1; rw [HDk.out] at this; exact this)).mono ?_
      rintro e w6 ⟨rfl, r6, g6⟩
      have hmb3 : MB E3 := by
        have := (HJ.out.2.2.1.put 0 H).1
        rw [HDk.out, HE2.out.2.1] at this
        exact this
      have H6 := Lib.hid (And.intro r6 (H5.out.2.trans g6))
      have HMB3 := Lib.hid hmb3
      clear r6 g6 H5 hmb3
      go_wp2_with fail
      refine (HMd.out _ H6.out.1 HMB3.out).mono ?_
      rintro e w7 ⟨rfl, g7⟩
      have H7 := Lib.hid (And.intro (H6.out.1.gr0 g7) (H6.out.2.trans g7.of0))
      clear g7 H6
      go_wp2_with fail
      go_ret
      exact ⟨rfl, H7.out⟩
end Go.Proofs.YtjbhallhmnahbaaGreat

/-
  FlatPlays: the document's Open, the state of its loop.
-/
namespace Go.Proofs.YtjbhallhmnahbaaGreat
open Go.RowKit
set_option linter.unusedVariables false

structure RoI (w0 : World) (fb : Nat) (C : CfgZ) (k : Nat) (vr : Value) (rqs : Nat → Nat) (wr : World) : Prop where
  head : Holds wr fb #[.int .i64 C.r, .int .i64 C.l, .int .i64 C.s, .int .i64 C.psi, .int .u64 (C.key : Int), vr] 79
  own : wr.ownsRow (fb + 1) 76 1 vr k (ptrL rqs k)
  rg : ∀ q, q < k → Holds wr (rqs q) (rqRow (regC C q) 0) 75
  dj : ∀ q q2, q < k → q2 < k → q ≠ q2 → rqs q ≠ rqs q2
  nr : ∀ q, q < k → rqs q ≠ fb ∧ vr.ownBlock ≠ some (rqs q) ∧ w0.heap.size ≤ rqs q
  gr : Gr [] w0 wr
  fl : w0.heap.size ≤ fb
section
variable {w0 w1 w2 w6 wr w' : World} {fb : Nat} {C : CfgZ} {k : Nat} {vr : Value} {rqs : Nat → Nat} {kb g cp : Nat}
theorem RoI.gr0 (h : RoI w0 fb C k vr rqs wr) (g : Gr [] wr w') : RoI w0 fb C k vr rqs w' := ⟨h.head.gr0 g, own_gr0 h.own g, fun q hq => (h.rg q hq).gr0 g, h.dj, h.nr, h.gr.trans g, h.fl⟩
theorem RoI.snoc (h : RoI w0 fb C k vr rqs w1) (g1 : Gr [] w1 w2) (hr : Holds w2 kb (rqRow (regC C k) 0) 75) (hkb : w1.heap.size ≤ kb)
    (hown : w6.ownsRow (fb + 1) 76 1 (.slice (some ⟨g, 0, none⟩) (k + 1) cp) (k + 1) (ptrL rqs k ++ [.pointer (some ⟨kb, 0, none⟩)]))
    (hg : w2.grownBy w6 vr.ownBlock) (hat : vr.ownBlock = some g ∨ g = w2.heap.size) :
    RoI w0 fb C (k + 1) (.slice (some ⟨g, 0, none⟩) (k + 1) cp) (updN rqs k kb) (w6.setCell ⟨fb, 5, none⟩ (.slice (some ⟨g, 0, none⟩) (k + 1) cp)) := by
  have hlr : ∀ b, vr.ownBlock = some b → fb + 1 ≤ b ∧ b < w1.heap.size := fun b e => h.own.lt b e
  have hfl := h.head.lt
  have hs := g1.size
  have hG2 : Gr (vr.ownBlock.toList ++ [fb]) w2 (w6.setCell ⟨fb, 5, none⟩ (.slice (some ⟨g, 0, none⟩) (k + 1) cp)) := (((gr_grown9 hg).mono fun b hb => List.mem_append.2 (.inl hb))).setCell (p := ⟨fb, 5, none⟩) (.inl (by simp)) _
  have hrow : ∀ b ∈ vr.ownBlock.toList ++ [fb], vr.ownBlock = some b ∨ b = fb := fun b hb => by
    rcases List.mem_append.1 hb with hb | hb
    · exact .inl (by simpa using hb)
    · exact .inr (by simpa using hb)
  have hlt2 : kb < w2.heap.size := hr.lt
  have hall : ∀ q, q < k + 1 → Holds w2 (updN rqs k kb q) (rqRow (regC C q) 0) 75 ∧ updN rqs k kb q ≠ fb ∧ vr.ownBlock ≠ some (updN rqs k kb q) ∧ w0.heap.size ≤ updN rqs k kb q ∧ updN rqs k kb q < w2.heap.size := fun q hq => by
    by_cases c : q = k
    · subst c
      rw [updN_same]
      refine ⟨hr, by omega, fun e => ?_, ?_, hlt2⟩
      · have := (hlr kb e).2
        omega
      · have := h.gr.size
        omega
    · rw [updN_other _ _ c]
      obtain ⟨a1, a2, a3⟩ := h.nr q (by omega)
      have := (h.rg q (by omega)).lt
      exact ⟨(h.rg q (by omega)).gr0 g1, a1, a2, a3, by omega⟩
  refine ⟨?_, ?_, fun q hq => ?_, fun q q2 h1 h2 hne => ?_, fun q hq => ?_, ?_, h.fl⟩
  · have hd : Holds w6 fb #[.int .i64 C.r, .int .i64 C.l, .int .i64 C.s, .int .i64 C.psi, .int .u64 (C.key : Int), vr] 79 := (h.head.gr0 g1).gr (gr_grown9 hg) (fun e => by have := (hlr fb (by simpa using e)).1; omega)
    have := hd.set 5 (.slice (some ⟨g, 0, none⟩) (k + 1) cp)
    exact this
  · rw [ptrL_snoc]
    exact own_gr hown ((Gr.refl [fb] w6).setCell (p := ⟨fb, 5, none⟩) (.inl (by simp)) _) (fun b hb e => by have := (hown.lt b hb).1; simp at e; omega)
  · obtain ⟨a0, a1, a2, a3, a4⟩ := hall q hq
    exact a0.gr hG2 fun e => by
      rcases hrow _ e with c | c
      · exact a2 c
      · exact a1 c
  · by_cases c1 : q = k
    · subst c1
      rw [updN_same, updN_other _ _ (fun e => hne e.symm)]
      have := (h.rg q2 (by omega)).lt
      omega
    · by_cases c2 : q2 = k
      · subst c2
        rw [updN_same, updN_other _ _ c1]
        have := (h.rg q (by omega)).lt
        omega
      · rw [updN_other _ _ c1, updN_other _ _ c2]
        exact h.dj q q2 (by omega) (by omega) hne
  · obtain ⟨a0, a1, a2, a3, a4⟩ := hall q hq
    refine ⟨a1, fun e => ?_, a3⟩
    have e' : g = updN rqs k kb q := by injection e
    rcases hat with c | c
    · exact a2 (by rw [c, e'])
    · omega
  · refine (h.gr.trans g1).nextN hG2 fun x hx => .inr ?_
    have h2 := h.fl
    rcases hrow x hx with c | c
    · have := (hlr x c).1; omega
    · omega
theorem RoI.done (hC : OkC C) (h : RoI w0 fb C (cR C) vr rqs wr) : ∃ A : RfA, A.fb = fb ∧ RfIs wr A C (fun _ => 0) ∧ ∀ x ∈ A.all (cR C), w0.heap.size ≤ x := by
  have n3 : 1 ≤ cR C := hC.nums.2.2.1
  have hf := h.fl
  have hr := h.own
  obtain ⟨R, hR⟩ : ∃ R, R = cR C := ⟨_, rfl⟩
  rw [← hR] at hr n3
  rcases hr.2 with ⟨_, hz⟩ | ⟨gr, cr, curr, hvr, hgr, hhr, _, _, hsr, htr⟩
  · omega
  have hor : vr.ownBlock = some gr := by rw [hvr]; rfl
  refine ⟨⟨fb, gr, cr, rqs⟩, rfl, ⟨hC, ?_, fun q hq => ?_, h.rg, h.dj, fun q hq => ?_⟩, fun x hx => ?_⟩
  · have := h.head
    rw [hvr, hR] at this
    exact this
  · have hc : wr.cell? ⟨gr, q, none⟩ = curr[q]? := (show Holds wr gr curr 76 from hhr).cell q
    have ht : (curr.toList.take (R * 1))[q]? = some (.pointer (some ⟨rqs q, 0, none⟩)) := by
      rw [htr]
      unfold ptrL
      rw [List.getElem?_map, List.getElem?_range (by omega)]
      rfl
    rw [List.getElem?_take, if_pos (by omega), Array.getElem?_toList] at ht
    exact hc.trans ht
  · obtain ⟨a1, a2, a3⟩ := h.nr q hq
    exact ⟨a1, fun e => a2 (by rw [hor]; exact congrArg some e.symm)⟩
  · have q1 := (hr.lt gr hor).1
    unfold RfA.all at hx
    rcases List.mem_append.1 hx with hx | hx
    · simp at hx
      rcases hx with e | e <;> omega
    · obtain ⟨q, hq, rfl⟩ := List.mem_map.1 hx
      exact (h.nr q (List.mem_range.1 hq)).2.2
end
end Go.Proofs.YtjbhallhmnahbaaGreat
