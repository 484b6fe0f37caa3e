/-
  PkBw: FpK, FpL, FpM, FpMa.
-/
import Derived.Test.YtjbhallhmnahbaaGreatPkBv
import Derived.Test.YtjbhallhmnahbaaGreatPkBq

set_option linter.unusedVariables false

/-
  FlatPlays: the document's Open.
-/
namespace Go.Proofs.YtjbhallhmnahbaaGreat
open Go.RowKit
set_option linter.unusedVariables false

theorem infoRing9 : (Tryz.prog.info? 76).map (fun i => (i.zero, i.size, i.bytes)) = some (some (.pointer none), 1, 8) := by kernel_rfl
set_option maxRecDepth 100000 in
set_option maxHeartbeats 16000000 in
theorem ropen9 {C : CfgZ} (hC : OkC C) (w : World) :
    Calls Tryz.prog 17 #[cfgV C] w fun e w' => ∃ A : RfA, e = .returned (.pointer (some ⟨A.fb, 0, none⟩)) ∧ RfIs w' A C (fun _ => 0) ∧ (∀ x ∈ A.all (cR C), w.heap.size ≤ x) ∧ Gr [] w w' := by
  obtain ⟨ip, hip, hpz0, hpz1, hpz2⟩ := info_parts infoRing9
  have HIP := Lib.hid (And.intro hip (And.intro hpz0 (And.intro hpz1 hpz2)))
  have HPl := Lib.hid (fun (k : Nat) (hk : k < cR C) W => show Calls Tryz.prog 24 #[.agg #[.int .i64 C.r, .int .i64 C.l, .int .i64 C.s, .int .i64 C.psi, .int .u64 (C.key : Int)], .int .i64 (k : Int)] W (fun e w' => e = .returned (planRV (regC C k)) ∧ Gr [] W w') from by
    have := rplan9 C hC.ok (k : Int) ⟨by omega, by have := hC.nums; omega⟩ W
    rw [← regV_eq hC hk]
    exact this)
  obtain ⟨R, hR⟩ : ∃ R, R = cR C := ⟨_, rfl⟩
  have hRr : C.r = (R : Int) := by rw [hR]; exact hC.nums.1.symm
  have HR := Lib.hid (And.intro hR (show R ≤ 16 by have := hC.nums; omega))
  have HOK := Lib.hid hC
  have HRr := Lib.hid hRr
  unfold cfgV
  rw [hRr] at HPl ⊢
  have HX := Lib.hid (Holds.new w #[.int .i64 (R : Int), .int .i64 C.l, .int .i64 C.s, .int .i64 C.psi, .int .u64 (C.key : Int)] 26)
  have HG := Lib.hid ((Gr.refl [] w).alloc (Obj.cells #[.int .i64 (R : Int), .int .i64 C.l, .int .i64 C.s, .int .i64 C.psi, .int .u64 (C.key : Int)] 26))
  clear hip hpz0 hpz1 hpz2 hC hR hRr
  go_enter Tryz.func17, Tryz.ntmps17
  go_upto_region 1 with fail
  generalize (w.alloc (Obj.cells #[.int .i64 (R : Int), .int .i64 C.l, .int .i64 C.s, .int .i64 C.psi, .int .u64 (C.key : Int)] 26)) = w1 at *
  obtain ⟨cb, hcb⟩ : ∃ cb, w.heap.size = cb := ⟨_, rfl⟩
  have HW := Lib.hid (show w.heap.size ≤ cb by omega)
  rw [hcb] at HX ⊢
  clear hcb
  have c0 := HX.out.cell 0
  have c1 := HX.out.cell 1
  have c2 := HX.out.cell 2
  have c3 := HX.out.cell 3
  have c4 := HX.out.cell 4
  go_upto_region 2 with fail
  have hf := Holds.new w1 #[.int .i64 (R : Int), .int .i64 C.l, .int .i64 C.s, .int .i64 C.psi, .int .u64 (C.key : Int), .slice none 0 0] 79
  have ga := (Gr.refl [] w1).alloc (Obj.cells #[.int .i64 (R : Int), .int .i64 C.l, .int .i64 C.s, .int .i64 C.psi, .int .u64 (C.key : Int), .slice none 0 0] 79)
  have H2 := Lib.hid (And.intro (show RoI w w1.heap.size C 0 (.slice none 0 0) (fun _ => 0) (w1.alloc (Obj.cells #[.int .i64 (R : Int), .int .i64 C.l, .int .i64 C.s, .int .i64 C.psi, .int .u64 (C.key : Int), .slice none 0 0] 79)) from
    ⟨by rw [HRr.out]; exact hf, ⟨rfl, .inl ⟨rfl, rfl⟩⟩, fun q hq => absurd hq (Nat.not_lt_zero q), fun q _ hq => absurd hq (Nat.not_lt_zero q), fun q hq => absurd hq (Nat.not_lt_zero q), HG.out.trans ga, HG.out.size⟩) (And.intro (HX.out.gr0 ga) HX.out.lt))
  clear hf ga c0 c1 c2 c3 c4 HX HG
  generalize (w1.alloc (Obj.cells #[.int .i64 (R : Int), .int .i64 C.l, .int .i64 C.s, .int .i64 C.psi, .int .u64 (C.key : Int), .slice none 0 0] 79)) = w2 at *
  obtain ⟨fb, hfb⟩ : ∃ fb, w1.heap.size = fb := ⟨_, rfl⟩
  rw [hfb] at H2 ⊢
  clear hfb
  have HCF := Lib.hid H2.out.2.2
  go_wp2_with fail
  go_loopw [4] (fun kv wr => ∃ (i : Nat) (vr : Value) (rqs : Nat → Nat), i ≤ R ∧ kv = .int .i64 (i : Int) ∧ Hid (RoI w fb C i vr rqs wr) ∧ Holds wr cb #[.int .i64 (R : Int), .int .i64 C.l, .int .i64 C.s, .int .i64 C.psi, .int .u64 (C.key : Int)] 26) (fun kv _ => R - (intOf kv).toNat)
  case atStart => exact ⟨0, _, _, by omega, rfl, Lib.hid H2.out.1, H2.out.2.1⟩
  case round =>
    obtain ⟨i, vr, rqs, hiR, rfl, HO, hcc⟩ := hrel
    have HCC := Lib.hid hcc
    clear hcc H2
    have c0 := HCC.out.cell 0
    by_cases hlt : i < R
    · have hR16 : R ≤ 16 := HR.out.2
      have ij : (i : Int) < (R : Int) := by omega
      have HJ := Lib.hid (show i < cR C by rw [← HR.out.1]; exact hlt)
      have HP1 := Lib.hid (fun W => HPl.out i HJ.out W)
      obtain ⟨P, hP⟩ : ∃ P, P = regC C i := ⟨_, rfl⟩
      rw [← hP] at HP1
      have HPe := Lib.hid hP
      unfold planRV at HP1
      have c1 := HCC.out.cell 1
      have c2 := HCC.out.cell 2
      have c3 := HCC.out.cell 3
      have c4 := HCC.out.cell 4
      have HIR := Lib.hid hlt
      have hw : IntKind.i64.wrap ((i : Int) + 1) = (i : Int) + 1 := IntWalk.i64_in _ (by omega)
      clear hP hlt hiR
      go_wp2_with fail
      refine (HP1.out _).mono ?_
      rintro e w5 ⟨rfl, g5⟩
      have hp5 := Holds.new w5 #[.int .i64 P.a, .int .i64 (P.l : Int), .int .i64 P.s, .int .i64 P.psi] 57
      have ga := (Gr.refl [] w5).alloc (Obj.cells #[.int .i64 P.a, .int .i64 (P.l : Int), .int .i64 P.s, .int .i64 P.psi] 57)
      have HE := Lib.hid ((HO.out.gr0 g5).gr0 ga)
      have HCE := Lib.hid ((HCC.out.gr0 g5).gr0 ga)
      have HPB := Lib.hid hp5
      clear g5 hp5 ga c0 c1 c2 c3 c4 HO HCC HP1
      go_upto_region 6 with fail
      generalize (w5.alloc (Obj.cells #[.int .i64 P.a, .int .i64 (P.l : Int), .int .i64 P.s, .int .i64 P.psi] 57)) = W at *
      obtain ⟨pb, hpb⟩ : ∃ pb, w5.heap.size = pb := ⟨_, rfl⟩
      rw [hpb] at HPB ⊢
      clear hpb
      obtain ⟨aoR, capR, hvr⟩ : ∃ ao cap, vr = .slice ao i cap := own_form9 HE.out.own
      subst hvr
      have f5 : W.cell? ⟨fb, 5, none⟩ = some (.slice aoR i capR) := HE.out.head.cell 5
      have y0 := HPB.out.cell 0
      have y1 := HPB.out.cell 1
      have y2 := HPB.out.cell 2
      have y3 := HPB.out.cell 3
      have gA := Lib.hid (((Gr.refl [] W).alloc (Obj.cells #[.int .i64 P.a, .int .i64 (P.l : Int), .int .i64 P.s, .int .i64 P.psi, .int .i64 0] 75)).alloc (Obj.cells #[.pointer (some ⟨W.heap.size, 0, none⟩)] 76))
      have HRN := Lib.hid ((Holds.new W #[.int .i64 P.a, .int .i64 (P.l : Int), .int .i64 P.s, .int .i64 P.psi, .int .i64 0] 75).alloc (Obj.cells #[.pointer (some ⟨W.heap.size, 0, none⟩)] 76))
      have hlf : fb < W.heap.size := HE.out.head.lt
      have hBS : fb + 1 ≤ (((W.alloc (Obj.cells #[.int .i64 P.a, .int .i64 (P.l : Int), .int .i64 P.s, .int .i64 P.psi, .int .i64 0] 75)).alloc (Obj.cells #[.pointer (some ⟨W.heap.size, 0, none⟩)] 76)).drew).heap.size := by
        show _ ≤ (World.alloc _ _).heap.size
        rw [World.size_alloc, World.size_alloc]
        omega
      have HBS := Lib.hid hBS
      have HLF := Lib.hid hlf
      have hT0 := HE.out.own.alloc (Obj.cells #[.int .i64 P.a, .int .i64 (P.l : Int), .int .i64 P.s, .int .i64 P.psi, .int .i64 0] 75)
      have HT := Lib.hid (hT0.alloc (Obj.cells #[.pointer (some ⟨W.heap.size, 0, none⟩)] 76))
      have hN0 := World.news_of_block (Holds.new (W.alloc (Obj.cells #[.int .i64 P.a, .int .i64 (P.l : Int), .int .i64 P.s, .int .i64 P.psi, .int .i64 0] 75)) #[.pointer (some ⟨W.heap.size, 0, none⟩)] 76)
      rw [World.size_alloc] at hN0
      have HN := Lib.hid hN0
      clear hBS hT0 hN0
      go_region_law ((have hT3 := HT.out; have hn3 := HN.out; refine step_append_lies _ rfl _ _ 77 rfl (fb + 1) 76 ip _ 1 8 Tryz.underlying77 HIP.out.1 HIP.out.2.1 HIP.out.2.2.1 HIP.out.2.2.2 rfl (by decide) (.slice aoR i capR) i (ptrL rqs i) rfl hT3 ⟨W.heap.size + 1, 0, none⟩ 1 1 [.pointer (some ⟨W.heap.size, 0, none⟩)] rfl rfl hn3 (by simp [Value.oneCell']) Nat.one_pos (by unfold maxLen; omega) (by omega) HBS.out _ rfl ?_; intro g6 cp6 w7 hown6 hgrow6 hat6 hlt6; have gF := (gA.out.drew.of0 (cs := (Value.slice aoR i capR).ownBlock.toList)).trans (gr_grown9 hgrow6); have hfb6 : fb ∉ (Value.slice aoR i capR).ownBlock.toList := (fun e => by have := (HE.out.own.lt fb (by simpa using e)).1; omega); have hd6 := HE.out.head.gr gF hfb6; have s6a : w7.cell? ⟨fb, 5, none⟩ = some (.slice aoR i capR) := hd6.cell 5; have s6f := hd6.frozen 5; have HR6 := Lib.hid (HE.out.snoc gA.out.drew (by rw [← HPe.out]; exact HRN.out.drew) (Nat.le_refl _) hown6 hgrow6 hat6); have HC7 := Lib.hid ((HCE.out.gr gF (fun e => by have h1 := (HE.out.own.lt cb (by simpa using e)).1; have h2 := HCF.out; omega)).far (a := ⟨fb, 5, none⟩) (by have h2 := HCF.out; show cb ≠ fb; omega) (.slice (some ⟨g6, 0, none⟩) (i + 1) cp6)); clear hown6 hgrow6 hat6 hlt6 hd6 gF hfb6 hT3 hn3))
      all_goals
        go_wp2_with fail
        go_roundw
        case rel => exact ⟨i + 1, _, _, HIR.out, by go_num, HR6, HC7.out⟩
        case measure => have := HIR.out; simp [intOf]; omega
    · obtain rfl : i = R := by omega
      have ij : ¬ ((i : Int) < (i : Int)) := by omega
      go_wp2_with fail
      obtain ⟨A, a1, a2, a3⟩ := RoI.done HOK.out (by rw [← HR.out.1]; exact HO.out)
      subst a1
      go_ret
      exact ⟨A, rfl, a2, a3, HO.out.gr⟩
end Go.Proofs.YtjbhallhmnahbaaGreat

/-
  FlatPlays: a write of a list, whatever its arguments: the program's and the document's come to the same.
-/
namespace Go.Proofs.YtjbhallhmnahbaaGreat
open Go.RowKit
set_option linter.unusedVariables false

theorem regZ_c {P : PlanR} (hP : OkR P) (i : Nat) (f : Int → DevS → BkS → Int × DevS × BkS) (D : DevS) (B : BkS) (j c : Nat) (hc : c ≤ 65536) : (regZ P i f D B j c).2.2.2.2 ≤ 65536 := by
  have := hP.p2
  unfold regZ
  split
  · split
    · show (if _ then 1 else 0) ≤ 65536
      split <;> omega
    · exact hc
  · rename_i h
    have h2 : c + 1 ≤ 65536 := by omega
    show (if _ then c + 1 else c) ≤ 65536
    split
    · exact h2
    · exact hc
section
variable {C : CfgZ} {D : DevS} {B : Nat → BkS} {j c : Nat → Nat} {A : FlA} {Rf : RfA} {a : DevA} {r : RefA} {m cc : Nat}
structure Both (C : CfgZ) (A : FlA) (Rf : RfA) (a : DevA) (r : RefA) (D : DevS) (B : Nat → BkS) (j c : Nat → Nat) (m cc : Nat) (x : Int) (D' : DevS) (B' : Nat → BkS) (j' c' : Nat → Nat) (pf : Nat) (pas : Array Value) (ras : Array Value) (rf : Nat) : Prop where
  on : x ≠ 6 → OnF C D' B' j'
  off : x = 6 → OffF C j D'
  ju : ∀ q, q < cR C → j' q ≤ j q + 1
  cu : ∀ q, q < cR C → c' q ≤ 65536
  prog : ∀ W, FlIs W A a C B m j c → DevIs W a D → Calls Tryz.prog pf pas W fun e w' => e = .returned (.int .i64 x) ∧ DevIs w' a D' ∧ Bd D' (cc + 4200) ∧ FlIs w' A a C B' (m + 192) j' c' ∧ Gr (A.all (cR C) ++ a.all) W w'
  ref : ∀ W, RfIs W Rf C c → RefIs W r D → Calls Tryz.prog rf ras W fun e w' => e = .returned (.int .i64 x) ∧ RefIs w' r D' ∧ RfIs w' Rf C c' ∧ Gr (Rf.all (cR C) ++ r.all) W w'
theorem fp_line (hC : OkC C) (hO : OnF C D B j) (hbb : MBB D) (hfu : Fu D cc) (hcc : cc < 390000) (hm : m < 70000) (hj : ∀ q, q < cR C → j q < 4294967294) (hc9 : ∀ q, q < cR C → c q ≤ 65536) (hsep : ∀ x ∈ Rf.all (cR C), x ∉ r.all) (i : Int) (s : ByteArray) (hs : s.size ≤ maxLen) :
    ∃ (x : Int) (D' : DevS) (B' : Nat → BkS) (j' c' : Nat → Nat), Both C A Rf a r D B j c m cc x D' B' j' c' 18 #[.pointer (some ⟨A.fb, 0, none⟩), .int .i64 i, .string s] #[.pointer (some ⟨r.rd, 0, none⟩), .pointer (some ⟨Rf.fb, 0, none⟩), .int .i64 i, .string s, .int .i64 (-1), .int .u64 0] 20 := by
  by_cases h64 : s.size = 64
  · by_cases hi : i < 0 ∨ ((cR C * cL C : Nat) : Int) ≤ i
    · refine ⟨3, D, B, j, c, fun _ => hO, fun q => by omega, fun q _ => by omega, hc9, fun W h d => (fwrite_out i s h h64 hi).mono ?_, fun W h q => (rfwrite9_out i s (-1) 0 _ (.inl ⟨rfl, h64⟩) h hi).mono ?_⟩
      · rintro e w2 ⟨rfl, g⟩
        exact ⟨rfl, d.gr0 g, hfu.1.mono (by omega), (h.gr g (by simp)).moreN (by omega), g.of0⟩
      · rintro e w2 ⟨rfl, g⟩
        exact ⟨rfl, q.gr0 g, h.gr0 g, g.of0⟩
    · obtain ⟨l, rfl⟩ : ∃ l : Nat, i = (l : Int) := ⟨i.toNat, by omega⟩
      have hl : l < cR C * cL C := by omega
      obtain ⟨hq, hi2⟩ := qi_in hC hl
      obtain ⟨r1, r2, r3, r4, _⟩ := hC.reg hq
      obtain ⟨X, hX, x1, x2, x3, x4, x5⟩ := OnF.line hC hbb.1 hbb hO hq hi2 (by have := hj _ hq; omega) h64 (c (qL C l))
      have hcX := regZ_c r1 (iL C l) (fun z => writeS (bankR (regC C (qL C l))) z s) D (B (qL C l)) (j (qL C l)) (c (qL C l)) (hc9 _ hq)
      rw [hX] at hcX
      refine ⟨X.1, X.2.1, updN B (qL C l) X.2.2.1, updN j (qL C l) X.2.2.2.1, updN c (qL C l) X.2.2.2.2, x2, x3, fun q hq1 => ?_, fun q hq1 => ?_, fun W h d => (fwrite_in l s h hl d hfu.1 (by omega) hm h64 (by have := hj _ hq; omega) hO.fit (fun _ => OnR.mv1 r1 hbb.1 (hO.on hq) (by have := hj _ hq; omega))).mono ?_, fun W h q => (rfwrite9 (cc := cc) l s (-1) 0 X (.inl ⟨rfl, h64⟩) h hl q hsep (fun W2 q2 hr2 => ?_)).mono ?_⟩
      · by_cases e : q = qL C l
        · subst e; rw [updN_same]; exact x5
        · rw [updN_other _ _ e]; omega
      · by_cases e : q = qL C l
        · subst e; rw [updN_same]; exact hcX
        · rw [updN_other _ _ e]; exact hc9 q hq1
      · rintro e w2 ⟨rfl, d2, b2, f2, g2⟩
        rw [hX] at d2 b2 f2 ⊢
        exact ⟨rfl, d2, b2, f2, g2⟩
      · rw [← hX]
        exact rwrite07 (iL C l) s h64 (by rw [r4]; exact hi2) r1 q2 hr2 (hsep _ (RfA.mem hq)) (hO.on hq) hbb hfu (by omega) (hj _ hq) (hc9 _ hq)
      · rintro e w2 ⟨rfl, d2, b2, f2, g2⟩
        exact ⟨rfl, d2, f2, g2⟩
  · refine ⟨2, D, B, j, c, fun _ => hO, fun q => by omega, fun q _ => by omega, hc9, fun W h d => (fwrite_len i s h64 hs A.fb W).mono ?_, fun W h q => (rfwrite9_arg i s (-1) 0 _ _ (.inl ⟨rfl, h64, hs⟩) W).mono ?_⟩
    · rintro e w2 ⟨rfl, rfl⟩
      exact ⟨rfl, d, hfu.1.mono (by omega), h.moreN (by omega), Gr.refl _ _⟩
    · rintro e w2 ⟨rfl, rfl⟩
      exact ⟨rfl, q, h, Gr.refl _ _⟩
theorem fp_word (hC : OkC C) (hO : OnF C D B j) (hbb : MBB D) (hfu : Fu D cc) (hcc : cc < 390000) (hm : m < 70000) (hj : ∀ q, q < cR C → j q < 4294967294) (hc9 : ∀ q, q < cR C → c q ≤ 65536) (hsep : ∀ x ∈ Rf.all (cR C), x ∉ r.all) (i k : Int) (hk0 : 0 ≤ k) (v : Nat) (hv : v < 18446744073709551616) :
    ∃ (x : Int) (D' : DevS) (B' : Nat → BkS) (j' c' : Nat → Nat), Both C A Rf a r D B j c m cc x D' B' j' c' 21 #[.pointer (some ⟨A.fb, 0, none⟩), .int .i64 i, .int .i64 k, .int .u64 (v : Int)] #[.pointer (some ⟨r.rd, 0, none⟩), .pointer (some ⟨Rf.fb, 0, none⟩), .int .i64 i, .string ⟨#[]⟩, .int .i64 k, .int .u64 (v : Int)] 20 := by
  by_cases h8 : k < 8
  · by_cases hi : i < 0 ∨ ((cR C * cL C : Nat) : Int) ≤ i
    · refine ⟨3, D, B, j, c, fun _ => hO, fun q => by omega, fun q _ => by omega, hc9, fun W h d => (fww_out i k v h hk0 h8 hi).mono ?_, fun W h q => (rfwrite9_out i ⟨#[]⟩ k (v : Int) _ (.inr ⟨hk0, by omega⟩) h hi).mono ?_⟩
      · rintro e w2 ⟨rfl, g⟩
        exact ⟨rfl, d.gr0 g, hfu.1.mono (by omega), (h.gr g (by simp)).moreN (by omega), g.of0⟩
      · rintro e w2 ⟨rfl, g⟩
        exact ⟨rfl, q.gr0 g, h.gr0 g, g.of0⟩
    · obtain ⟨l, rfl⟩ : ∃ l : Nat, i = (l : Int) := ⟨i.toNat, by omega⟩
      obtain ⟨kk, rfl⟩ : ∃ kk : Nat, k = (kk : Int) := ⟨k.toNat, by omega⟩
      have hl : l < cR C * cL C := by omega
      have hk8 : kk < 8 := by omega
      obtain ⟨hq, hi2⟩ := qi_in hC hl
      obtain ⟨r1, r2, r3, r4, _⟩ := hC.reg hq
      obtain ⟨X, hX, x1, x2, x3, x4, x5⟩ := OnF.word hC hbb.1 hbb hO hq hi2 (by have := hj _ hq; omega) hk8 hv (c (qL C l))
      have hcX := regZ_c r1 (iL C l) (fun z => writeWordS (bankR (regC C (qL C l))) z (kk : Int) v) D (B (qL C l)) (j (qL C l)) (c (qL C l)) (hc9 _ hq)
      rw [hX] at hcX
      refine ⟨X.1, X.2.1, updN B (qL C l) X.2.2.1, updN j (qL C l) X.2.2.2.1, updN c (qL C l) X.2.2.2.2, x2, x3, fun q hq1 => ?_, fun q hq1 => ?_, fun W h d => (fww_in l kk v h hl d hfu.1 (by omega) hm hk8 hv (by have := hj _ hq; omega) hO.fit (fun _ => OnR.mv1 r1 hbb.1 (hO.on hq) (by have := hj _ hq; omega))).mono ?_, fun W h q => (rfwrite9 (cc := cc) l ⟨#[]⟩ (kk : Int) (v : Int) X (.inr ⟨by omega, by omega⟩) h hl q hsep (fun W2 q2 hr2 => ?_)).mono ?_⟩
      · by_cases e : q = qL C l
        · subst e; rw [updN_same]; exact x5
        · rw [updN_other _ _ e]; omega
      · by_cases e : q = qL C l
        · subst e; rw [updN_same]; exact hcX
        · rw [updN_other _ _ e]; exact hc9 q hq1
      · rintro e w2 ⟨rfl, d2, b2, f2, g2⟩
        rw [hX] at d2 b2 f2 ⊢
        exact ⟨rfl, d2, b2, f2, g2⟩
      · rw [← hX]
        exact rww07 (iL C l) kk v hk8 hv (by rw [r4]; exact hi2) r1 q2 hr2 (hsep _ (RfA.mem hq)) (hO.on hq) hbb hfu (by omega) (hj _ hq) (hc9 _ hq)
      · rintro e w2 ⟨rfl, d2, b2, f2, g2⟩
        exact ⟨rfl, d2, f2, g2⟩
  · refine ⟨2, D, B, j, c, fun _ => hO, fun q => by omega, fun q _ => by omega, hc9, fun W h d => (fww_arg i k v (.inr (by omega)) A.fb W).mono ?_, fun W h q => (rfwrite9_arg i ⟨#[]⟩ k (v : Int) _ _ (.inr (by omega)) W).mono ?_⟩
    · rintro e w2 ⟨rfl, rfl⟩
      exact ⟨rfl, d, hfu.1.mono (by omega), h.moreN (by omega), Gr.refl _ _⟩
    · rintro e w2 ⟨rfl, rfl⟩
      exact ⟨rfl, q, h, Gr.refl _ _⟩
end
end Go.Proofs.YtjbhallhmnahbaaGreat

/-
  FlatPlays: the law's state between two acts: both devices, both lists.
-/
namespace Go.Proofs.YtjbhallhmnahbaaGreat
open Go.RowKit
set_option linter.unusedVariables false

structure FPs (w : World) (a : DevA) (r : RefA) (pb : Nat) : Prop where
  sep : ∀ x ∈ a.all, x ∉ r.all
  lo : ∀ x ∈ a.all ++ r.all, pb < x
  pl : w.heap.size ≤ pb
structure FPd (w : World) (a : DevA) (r : RefA) (C : CfgZ) (pb : Nat) (D : DevS) (cc : Nat) (wr : World) : Prop where
  dev : DevIs wr a D
  ref : RefIs wr r D
  bd : Bd D cc
  cfg : Holds wr pb #[.int .i64 C.r, .int .i64 C.l, .int .i64 C.s, .int .i64 C.psi, .int .u64 (C.key : Int)] 26
  gr : Gr [] w wr
structure FPq (a : DevA) (r : RefA) (C : CfgZ) (pb : Nat) (A : FlA) (Rf : RfA) (B : Nat → BkS) (j c : Nat → Nat) (m : Nat) (wr : World) : Prop where
  fl : FlIs wr A a C B m j c
  rf : RfIs wr Rf C c
  s1 : ∀ x ∈ A.all (cR C), x ∉ Rf.all (cR C) ∧ x ∉ r.all ∧ pb < x
  s2 : ∀ x ∈ Rf.all (cR C), x ∉ a.all ∧ x ∉ r.all ∧ pb < x
section
variable {w wr w5 w6 : World} {a : DevA} {r : RefA} {C : CfgZ} {pb : Nat} {D D' : DevS} {cc cc' m m' : Nat} {A : FlA} {Rf : RfA} {B B' : Nat → BkS} {j c j' c' : Nat → Nat}
theorem FPd.gr0 (h : FPd w a r C pb D cc wr) (g : Gr [] wr w5) : FPd w a r C pb D cc w5 := ⟨h.dev.gr0 g, h.ref.gr0 g, h.bd, h.cfg.gr0 g, h.gr.trans g⟩
theorem FPq.gr0 (h : FPq a r C pb A Rf B j c m wr) (g : Gr [] wr w5) : FPq a r C pb A Rf B j c m w5 := ⟨h.fl.gr g (by simp), h.rf.gr0 g, h.s1, h.s2⟩
theorem FPd.more (h : FPd w a r C pb D cc wr) (hc : cc ≤ cc') : FPd w a r C pb D cc' wr := ⟨h.dev, h.ref, h.bd.mono hc, h.cfg, h.gr⟩
theorem FPq.more (h : FPq a r C pb A Rf B j c m wr) (hm : m ≤ m') : FPq a r C pb A Rf B j c m' wr := ⟨h.fl.moreN hm, h.rf, h.s1, h.s2⟩
theorem FPd.fu (h : FPd w a r C pb D cc wr) : Fu D cc := ⟨h.bd, h.dev.ok.fu⟩
theorem FPd.mbb (h : FPd w a r C pb D cc wr) : MBB D := ⟨h.dev.ok.medB, h.dev.ok.bufB⟩
theorem FPd.mid (F : FPs w a r pb) (h : FPd w a r C pb D cc wr) (q : FPq a r C pb A Rf B j c m wr) (g5 : Gr (A.all (cR C) ++ a.all) wr w5) : RfIs w5 Rf C c ∧ RefIs w5 r D ∧ Holds w5 pb #[.int .i64 C.r, .int .i64 C.l, .int .i64 C.s, .int .i64 C.psi, .int .u64 (C.key : Int)] 26 ∧ Gr [] w w5 := by
  refine ⟨q.rf.gr g5 fun x hx e => ?_, h.ref.gr g5 fun x hx e => ?_, h.cfg.gr g5 fun e => ?_, h.gr.nextN g5 fun x hx => .inr ?_⟩
  · rcases List.mem_append.1 e with e | e
    · exact (q.s1 x e).1 hx
    · exact (q.s2 x hx).1 e
  · rcases List.mem_append.1 e with e | e
    · exact (q.s1 x e).2.1 hx
    · exact F.sep x e hx
  · rcases List.mem_append.1 e with e | e
    · have := (q.s1 _ e).2.2; omega
    · have := F.lo _ (List.mem_append.2 (.inl e)); omega
  · have := F.pl
    rcases List.mem_append.1 hx with e | e
    · have := (q.s1 _ e).2.2; omega
    · have := F.lo _ (List.mem_append.2 (.inl e)); omega
theorem FPd.after (F : FPs w a r pb) (h : FPd w a r C pb D cc wr) (q : FPq a r C pb A Rf B j c m wr) (g5 : Gr (A.all (cR C) ++ a.all) wr w5) (d5 : DevIs w5 a D') (f5 : FlIs w5 A a C B' m' j' c') (g6 : Gr (Rf.all (cR C) ++ r.all) w5 w6) (r6 : RefIs w6 r D') (q6 : RfIs w6 Rf C c') (hb : Bd D' cc') :
    FPd w a r C pb D' cc' w6 ∧ FPq a r C pb A Rf B' j' c' m' w6 := by
  obtain ⟨m1, m2, m3, m4⟩ := h.mid F q g5
  have hn : ∀ x ∈ Rf.all (cR C) ++ r.all, pb < x := fun x hx => by
    rcases List.mem_append.1 hx with e | e
    · exact (q.s2 _ e).2.2
    · exact F.lo _ (List.mem_append.2 (.inr e))
  refine ⟨⟨d5.gr g6 fun x hx e => ?_, r6, hb, m3.gr g6 fun e => ?_, m4.nextN g6 fun x hx => .inr ?_⟩, ⟨f5.gr g6 fun x hx e => ?_, q6, q.s1, q.s2⟩⟩
  · rcases List.mem_append.1 e with e | e
    · exact (q.s2 x e).1 hx
    · exact F.sep x hx e
  · have := hn _ e; omega
  · have := hn _ hx; have := F.pl; omega
  · rcases List.mem_append.1 e with e | e
    · exact (q.s1 x hx).1 e
    · exact (q.s1 x hx).2.1 e
theorem FPd.moved (F : FPs w a r pb) (h : FPd w a r C pb D cc wr) (q : FPq a r C pb A Rf B j c m wr) (g5 : Gr a.all wr w5) (d5 : DevIs w5 a D') (g6 : Gr r.all w5 w6) (r6 : RefIs w6 r D') (hb : Bd D' cc') : FPd w a r C pb D' cc' w6 ∧ FPq a r C pb A Rf B j c m w6 := by
  have g5' : Gr (A.all (cR C) ++ a.all) wr w5 := g5.mono fun x hx => List.mem_append.2 (.inr hx)
  have g6' : Gr (Rf.all (cR C) ++ r.all) w5 w6 := g6.mono fun x hx => List.mem_append.2 (.inr hx)
  have hnA : ∀ x ∈ A.all (cR C), x ∉ a.all := fun x hx e => by
    unfold FlA.all at hx
    rcases List.mem_append.1 hx with hx | hx
    · obtain ⟨n1, n2, n3⟩ := q.fl.na
      simp at hx
      rcases hx with e2 | e2 | e2
      · exact n1 (e2 ▸ e)
      · exact n2 (e2 ▸ e)
      · exact n3 (e2 ▸ e)
    · obtain ⟨k, hk, hx⟩ := List.mem_flatMap.1 hx
      have R := q.fl.rg k (List.mem_range.1 hk)
      unfold FlA.reg at hx
      rcases List.mem_cons.1 hx with e2 | e2
      · exact R.ka (e2 ▸ e)
      · exact R.bk.sep _ e2 e
  obtain ⟨m1, m2, m3, m4⟩ := h.mid F q g5'
  exact FPd.after F h q g5' d5 (q.fl.gr g5 hnA) g6' r6 (m1.gr g6 fun x hx e => (q.s2 x hx).2.1 e) hb
end
end Go.Proofs.YtjbhallhmnahbaaGreat

/-
  FlatPlays: the numbers of the act that breaks a line.
-/
namespace Go.Proofs.YtjbhallhmnahbaaGreat
open Go.RowKit
set_option linter.unusedVariables false

structure Brk (C : CfgZ) (n : Nat) (z : Int) (n1 S z4 k4 q4 T P4 U : Nat) : Prop where
  w1 : IntKind.i64.wrap ((n : Int) - 1) = (n1 : Int)
  z1 : ¬ ((n1 : Int) = 0)
  t1 : (n1 : Int).tdiv C.r = (S : Int)
  zr : ¬ (C.r = 0)
  w2 : IntKind.i64.wrap (S : Int) = (S : Int)
  t2 : z.tmod (n1 : Int) = (z4 : Int)
  w3 : IntKind.i64.wrap (z4 : Int) = (z4 : Int)
  w4 : IntKind.i64.wrap (1 + (z4 : Int)) = (k4 : Int)
  w5 : IntKind.i64.wrap ((k4 : Int) - 1) = (z4 : Int)
  t3 : (z4 : Int).tdiv (S : Int) = (q4 : Int)
  zs : ¬ ((S : Int) = 0)
  w6 : IntKind.i64.wrap (q4 : Int) = (q4 : Int)
  p4 : 1 + (q4 : Int) * regS C = (P4 : Int)
  w7 : IntKind.i64.wrap (C.s + 7) = C.s + 7
  t4 : (C.s + 7).tdiv 8 = (T : Int)
  w8 : IntKind.i64.wrap (T : Int) = (T : Int)
  w9 : IntKind.i64.wrap ((P4 : Int) + (T : Int)) = (U : Int)
  qi : (q4 : Int) ≤ 16
  kn : k4 < n
  out : U ≤ k4 → ∀ q, q < cR C → (k4 : Int) < (regC C q).a ∨ (regC C q).a + tabZ (bankR (regC C q)) ≤ (k4 : Int)
theorem brk_nums {C : CfgZ} (hC : OkC C) {n : Nat} (hn : (n : Int) = sizeC C) (h37 : n ≤ 37) (z : Int) (hz : 0 ≤ z) : ∃ n1 S z4 k4 q4 T P4 U : Nat, Brk C n z n1 S z4 k4 q4 T P4 U := by
  obtain ⟨m1, m2, m3, m4, m5, m6, m7, m8, m9, m10, m11⟩ := hC.nums
  rw [hC.size] at hn
  obtain ⟨S, hS⟩ : ∃ S : Nat, regS C = (S : Int) := ⟨(regS C).toNat, by omega⟩
  obtain ⟨R, hR⟩ : ∃ R : Nat, R = cR C := ⟨_, rfl⟩
  rw [← hR] at m1 m3 m4
  have hS1 : 1 ≤ S := by omega
  have hn1 : n = R * S + 1 := by
    rw [hS, ← m1] at hn
    have : ((n : Nat) : Int) = ((R * S + 1 : Nat) : Int) := by rw [hn, Int.natCast_add, Int.natCast_mul]; omega
    exact Int.ofNat.inj this
  have hRS : 1 ≤ R * S := Nat.mul_pos m3 hS1
  have hSR : S ≤ R * S := Nat.le_mul_of_pos_left S (by omega)
  obtain ⟨Z, rfl⟩ : ∃ Z : Nat, z = (Z : Int) := ⟨z.toNat, by omega⟩
  have a1 : ((R * S : Nat) : Int).tdiv C.r = (S : Int) := by
    rw [← m1, ← Int.ofNat_tdiv, Nat.mul_div_cancel_left S (by omega)]
  have a2 : ((Z : Nat) : Int).tmod ((R * S : Nat) : Int) = ((Z % (R * S) : Nat) : Int) := Int.ofNat_tmod _ _
  have a3 := Nat.mod_lt Z (show 0 < R * S by omega)
  have a4 : (((Z % (R * S)) : Nat) : Int).tdiv (S : Int) = (((Z % (R * S)) / S : Nat) : Int) := (Int.ofNat_tdiv _ _).symm
  have a5 : Z % (R * S) / S < R := Nat.div_lt_of_lt_mul (by rw [Nat.mul_comm S R]; exact a3)
  obtain ⟨z4, hz4⟩ : ∃ x, x = Z % (R * S) := ⟨_, rfl⟩
  rw [← hz4] at a2 a3 a4 a5
  obtain ⟨q4, hq4⟩ : ∃ x, x = z4 / S := ⟨_, rfl⟩
  rw [← hq4] at a4 a5
  have a6 : S * q4 + z4 % S = z4 := by rw [hq4]; exact Nat.div_add_mod z4 S
  have a7 := Nat.mod_lt z4 (show 0 < S by omega)
  have a8 : q4 * S = S * q4 := Nat.mul_comm _ _
  obtain ⟨N1, hN1⟩ : ∃ x, x = R * S := ⟨_, rfl⟩
  rw [← hN1] at a1 a2 a3 hn1 hRS hSR
  obtain ⟨Y, hY⟩ : ∃ x, x = q4 * S := ⟨_, rfl⟩
  have hT : (C.s + 7).tdiv 8 = (((C.s + 7) / 8).toNat : Int) := by rw [Int.tdiv_eq_ediv_of_nonneg (by omega)]; omega
  have hp : 1 + (q4 : Int) * regS C = ((1 + Y : Nat) : Int) := by rw [hS, hY]; push_cast; rfl
  refine ⟨N1, S, z4, z4 + 1, q4, ((C.s + 7) / 8).toNat, 1 + Y, 1 + Y + ((C.s + 7) / 8).toNat, ?_⟩
  have hz4b : z4 < N1 := by rw [hN1]; exact hN1 ▸ a3
  refine ⟨?_, by omega, a1, by omega, IntWalk.i64_in _ (by omega), a2, IntWalk.i64_in _ (by omega), ?_, ?_, a4, by omega, IntWalk.i64_in _ (by omega), hp, IntWalk.i64_in _ (by omega), hT, IntWalk.i64_in _ (by omega), ?_, by omega, by omega, ?_⟩
  · rw [show ((n : Int) - 1) = (N1 : Int) by omega]; exact IntWalk.i64_in _ (by omega)
  · rw [show (1 + (z4 : Int)) = ((z4 + 1 : Nat) : Int) by omega]; exact IntWalk.i64_in _ (by omega)
  · rw [show (((z4 + 1 : Nat) : Int) - 1) = (z4 : Int) by omega]; exact IntWalk.i64_in _ (by omega)
  · rw [show (((1 + Y : Nat) : Int) + (((C.s + 7) / 8).toNat : Int)) = ((1 + Y + ((C.s + 7) / 8).toNat : Nat) : Int) by omega]
    exact IntWalk.i64_in _ (by omega)
  · intro hu q hq
    obtain ⟨r1, r2, r3, r4, r5, r6, r7, r8⟩ := hC.reg hq
    have htb : tabZ (bankR (regC C q)) = (C.s + 7) / 8 := by rw [← r5]; rfl
    rw [htb, r3, hS]
    by_cases c1 : q = q4
    · subst c1
      rw [show ((q : Int) * (S : Int)) = (Y : Int) by rw [hY]; push_cast; rfl]
      right; omega
    · by_cases c2 : q < q4
      · right
        have : (q + 1) * S ≤ q4 * S := Nat.mul_le_mul_right S (by omega)
        rw [Nat.add_mul, ← hY] at this
        rw [show ((q : Int) * (S : Int)) = ((q * S : Nat) : Int) by push_cast; rfl]
        omega
      · left
        have : (q4 + 1) * S ≤ q * S := Nat.mul_le_mul_right S (by omega)
        rw [Nat.add_mul, ← hY] at this
        rw [show ((q : Int) * (S : Int)) = ((q * S : Nat) : Int) by push_cast; rfl]
        omega
section
variable {w wr w4 w5 w6 : World} {a : DevA} {r : RefA} {C : CfgZ} {pb : Nat} {D D' : DevS} {cc cc' m : Nat} {A : FlA} {Rf : RfA} {B : Nat → BkS} {j c : Nat → Nat}
theorem FlIs.sepA (h : FlIs wr A a C B m j c) : ∀ x ∈ A.all (cR C), x ∉ a.all := fun x hx e => by
  unfold FlA.all at hx
  rcases List.mem_append.1 hx with hx | hx
  · obtain ⟨n1, n2, n3⟩ := h.na
    simp at hx
    rcases hx with e2 | e2 | e2
    · exact n1 (e2 ▸ e)
    · exact n2 (e2 ▸ e)
    · exact n3 (e2 ▸ e)
  · obtain ⟨k, hk, hx⟩ := List.mem_flatMap.1 hx
    have R := h.rg k (List.mem_range.1 hk)
    unfold FlA.reg at hx
    rcases List.mem_cons.1 hx with e2 | e2
    · exact R.ka (e2 ▸ e)
    · exact R.bk.sep _ e2 e
theorem FPd.moved3 (F : FPs w a r pb) (h : FPd w a r C pb D cc wr) (q : FPq a r C pb A Rf B j c m wr) (g4 : Gr r.all wr w4) (g5 : Gr a.all w4 w5) (d5 : DevIs w5 a D') (g6 : Gr r.all w5 w6) (r6 : RefIs w6 r D') (hb : Bd D' cc') : FPd w a r C pb D' cc' w6 ∧ FPq a r C pb A Rf B j c m w6 := by
  have g : Gr (a.all ++ r.all) wr w6 := ((g4.mono fun x hx => List.mem_append.2 (.inr hx)).trans (g5.mono fun x hx => List.mem_append.2 (.inl hx))).trans (g6.mono fun x hx => List.mem_append.2 (.inr hx))
  refine ⟨⟨d5.gr g6 fun x hx e => F.sep x hx e, r6, hb, h.cfg.gr g fun e => ?_, h.gr.nextN g fun x hx => .inr ?_⟩, ⟨q.fl.gr g fun x hx e => ?_, q.rf.gr g fun x hx e => ?_, q.s1, q.s2⟩⟩
  · have := F.lo _ e; omega
  · have := F.lo _ hx; have := F.pl; omega
  · rcases List.mem_append.1 e with e | e
    · exact q.fl.sepA x hx e
    · exact (q.s1 x hx).2.1 e
  · rcases List.mem_append.1 e with e | e
    · exact (q.s2 x hx).1 e
    · exact (q.s2 x hx).2.1 e
end
theorem OkC.lines {C : CfgZ} (h : OkC C) : cR C * cL C ≤ 16384 := by
  have n := h.nums
  have := Nat.mul_le_mul n.2.2.2.1 n.2.2.2.2.2.1
  omega
theorem keep5 {W W' : World} {b : Nat} {x0 x1 x2 x3 x4 : Value} (h : W.cell? ⟨b, 0, none⟩ = some x0 ∧ W.cell? ⟨b, 1, none⟩ = some x1 ∧ W.cell? ⟨b, 2, none⟩ = some x2 ∧ W.cell? ⟨b, 3, none⟩ = some x3 ∧ W.cell? ⟨b, 4, none⟩ = some x4) (g : Gr [] W W') : W'.cell? ⟨b, 0, none⟩ = some x0 ∧ W'.cell? ⟨b, 1, none⟩ = some x1 ∧ W'.cell? ⟨b, 2, none⟩ = some x2 ∧ W'.cell? ⟨b, 3, none⟩ = some x3 ∧ W'.cell? ⟨b, 4, none⟩ = some x4 :=
  have hb := World.block_lt_of_cell? W _ h.1
  ⟨(g.cell0 hb).trans h.1, (g.cell0 hb).trans h.2.1, (g.cell0 hb).trans h.2.2.1, (g.cell0 hb).trans h.2.2.2.1, (g.cell0 hb).trans h.2.2.2.2⟩
theorem kA5 {W : World} {b : Nat} {x0 x1 x2 x3 x4 : Value} {o : Obj} (h : W.cell? ⟨b, 0, none⟩ = some x0 ∧ W.cell? ⟨b, 1, none⟩ = some x1 ∧ W.cell? ⟨b, 2, none⟩ = some x2 ∧ W.cell? ⟨b, 3, none⟩ = some x3 ∧ W.cell? ⟨b, 4, none⟩ = some x4) : (W.alloc o).cell? ⟨b, 0, none⟩ = some x0 ∧ (W.alloc o).cell? ⟨b, 1, none⟩ = some x1 ∧ (W.alloc o).cell? ⟨b, 2, none⟩ = some x2 ∧ (W.alloc o).cell? ⟨b, 3, none⟩ = some x3 ∧ (W.alloc o).cell? ⟨b, 4, none⟩ = some x4 := keep5 h ((Gr.refl [] W).alloc o)
theorem kD5 {W : World} {b : Nat} {x0 x1 x2 x3 x4 : Value} (h : W.cell? ⟨b, 0, none⟩ = some x0 ∧ W.cell? ⟨b, 1, none⟩ = some x1 ∧ W.cell? ⟨b, 2, none⟩ = some x2 ∧ W.cell? ⟨b, 3, none⟩ = some x3 ∧ W.cell? ⟨b, 4, none⟩ = some x4) : W.drew.cell? ⟨b, 0, none⟩ = some x0 ∧ W.drew.cell? ⟨b, 1, none⟩ = some x1 ∧ W.drew.cell? ⟨b, 2, none⟩ = some x2 ∧ W.drew.cell? ⟨b, 3, none⟩ = some x3 ∧ W.drew.cell? ⟨b, 4, none⟩ = some x4 := h
theorem kS5 {W : World} {b n i : Nat} {x0 x1 x2 x3 x4 v : Value} (h : W.cell? ⟨b, 0, none⟩ = some x0 ∧ W.cell? ⟨b, 1, none⟩ = some x1 ∧ W.cell? ⟨b, 2, none⟩ = some x2 ∧ W.cell? ⟨b, 3, none⟩ = some x3 ∧ W.cell? ⟨b, 4, none⟩ = some x4) (hn : n ≠ b) : (W.setCell ⟨n, i, none⟩ v).cell? ⟨b, 0, none⟩ = some x0 ∧ (W.setCell ⟨n, i, none⟩ v).cell? ⟨b, 1, none⟩ = some x1 ∧ (W.setCell ⟨n, i, none⟩ v).cell? ⟨b, 2, none⟩ = some x2 ∧ (W.setCell ⟨n, i, none⟩ v).cell? ⟨b, 3, none⟩ = some x3 ∧ (W.setCell ⟨n, i, none⟩ v).cell? ⟨b, 4, none⟩ = some x4 := by
  have g := grSet W n i v
  have hb := World.block_lt_of_cell? W _ h.1
  have hn2 : b ∉ [n] := by simp; omega
  exact ⟨(cell_gr g hb hn2).trans h.1, (cell_gr g hb hn2).trans h.2.1, (cell_gr g hb hn2).trans h.2.2.1, (cell_gr g hb hn2).trans h.2.2.2.1, (cell_gr g hb hn2).trans h.2.2.2.2⟩
theorem box4_set {w4 W : World} {nb : Nat} {u v0 v1 v2 v3 : Value} (hW : Gr [] w4 W) (hnb : w4.heap.size ≤ nb) (c0 : W.cell? ⟨nb, 0, none⟩ = some u) : Gr [] w4 ((((W.setCell ⟨nb, 0, none⟩ v0).setCell ⟨nb, 1, none⟩ v1).setCell ⟨nb, 2, none⟩ v2).setCell ⟨nb, 3, none⟩ v3) ∧ ((((W.setCell ⟨nb, 0, none⟩ v0).setCell ⟨nb, 1, none⟩ v1).setCell ⟨nb, 2, none⟩ v2).setCell ⟨nb, 3, none⟩ v3).cell? ⟨nb, 0, none⟩ = some v0 := by
  refine ⟨?_, ?_⟩
  · repeat (first | exact hW | refine Gr.setCell ?_ (.inr (by (try dsimp only); omega)) _)
  · refine (World.cell?_setCell_other (a := ⟨nb, 3, none⟩) (b := ⟨nb, 0, none⟩) _ _ (by simp)).trans ?_
    refine (World.cell?_setCell_other (a := ⟨nb, 2, none⟩) (b := ⟨nb, 0, none⟩) _ _ (by simp)).trans ?_
    refine (World.cell?_setCell_other (a := ⟨nb, 1, none⟩) (b := ⟨nb, 0, none⟩) _ _ (by simp)).trans ?_
    exact World.cell?_setCell_same _ _ _ c0
theorem after0P {W w5 : World} (g : Gr [] W.drew w5) : W.heap.size ≤ w5.heap.size := g.size
theorem after1P {W w5 : World} {cs : Array Value} {t : TypeId} (g : Gr [] (W.alloc (Obj.cells cs t)).drew w5) : Holds w5 W.heap.size cs t := (Holds.new W cs t).gr0 ((Gr.refl [] _).drew.next0 g)
end Go.Proofs.YtjbhallhmnahbaaGreat
