/-
  Layer 9: Open, where a list is.
-/
import Derived.Test.YtifekejcbhllpaaGreatSkBb

namespace Go.Proofs.YtifekejcbhllpaaGreat
open Go.RowKit
set_option linter.unusedVariables false

theorem putL_take_len (n k : Nat) (l : List UInt8) : (putL n k ++ l).take k = putL n k := by
  rw [List.take_left' (putL_length n k)]
theorem putL_drop_len (n k : Nat) (l : List UInt8) : (putL n k ++ l).drop k = l := by
  rw [List.drop_left' (putL_length n k)]
theorem parZ_head {C : CfgZ} (h : Wf16 C) : parZ (headL C) = C := by
  obtain ⟨h1, h2, h3, h4, h5⟩ := h
  obtain ⟨T, hT⟩ : ∃ T, headL C = magL ++ (putL C.r.toNat 2 ++ (putL C.l.toNat 2 ++ (putL C.s.toNat 2 ++ (putL C.psi.toNat 2 ++ (putL C.key 8 ++ T))))) := ⟨List.replicate 36 0 ++ putL (n32 (sum32 (preL C))) 4, by unfold headL preL; simp only [List.append_assoc]⟩
  have d8 : (headL C).drop 8 = putL C.r.toNat 2 ++ (putL C.l.toNat 2 ++ (putL C.s.toNat 2 ++ (putL C.psi.toNat 2 ++ (putL C.key 8 ++ T)))) := by
    rw [hT, List.drop_left' (show magL.length = 8 from rfl)]
  have d10 : (headL C).drop 10 = putL C.l.toNat 2 ++ (putL C.s.toNat 2 ++ (putL C.psi.toNat 2 ++ (putL C.key 8 ++ T))) := by
    rw [show (10 : Nat) = 8 + 2 from rfl, ← List.drop_drop, d8, putL_drop_len]
  have d12 : (headL C).drop 12 = putL C.s.toNat 2 ++ (putL C.psi.toNat 2 ++ (putL C.key 8 ++ T)) := by
    rw [show (12 : Nat) = 10 + 2 from rfl, ← List.drop_drop, d10, putL_drop_len]
  have d14 : (headL C).drop 14 = putL C.psi.toNat 2 ++ (putL C.key 8 ++ T) := by
    rw [show (14 : Nat) = 12 + 2 from rfl, ← List.drop_drop, d12, putL_drop_len]
  have d16 : (headL C).drop 16 = putL C.key 8 ++ T := by
    rw [show (16 : Nat) = 14 + 2 from rfl, ← List.drop_drop, d14, putL_drop_len]
  unfold parZ
  rw [d8, d10, d12, d14, d16, putL_take_len, putL_take_len, putL_take_len, putL_take_len, putL_take_len, getL_putL, getL_putL, getL_putL, getL_putL, getL_putL]
  obtain ⟨r, l, s, p, k⟩ := C
  simp only at h1 h2 h3 h4 h5 ⊢
  congr 1
  · omega
  · omega
  · omega
  · omega
  · omega
theorem infoPtr9 : (Tryz.prog.info? 104).map (fun i => (i.zero, i.size, i.bytes)) = some (some (.pointer none), 1, 8) := by kernel_rfl
theorem infoPerm9 : (Tryz.prog.info? 139).map (fun i => (i.zero, i.size, i.bytes)) = some (some (.agg #[.int .i64 0, .int .i64 0, .int .u16 0, .int .u16 0, .int .u16 0, .int .u16 0]), 6, 24) := by kernel_rfl
theorem one_ptr9 (kb : Nat) : ∀ u ∈ [Value.pointer (some ⟨kb, 0, none⟩)], u.oneCell' = true := by simp [Value.oneCell']
theorem one_perm9 (C : CfgZ) (q : Nat) : ∀ u ∈ (permRow C q).toList, u.oneCell' = true := by simp [permRow, Value.oneCell']
section
variable {w : World} {a : DevA} {D : DevS} {C : CfgZ} {B : Nat → BkS} {j : Nat → Nat} {F : Nat → Nat → Nat → Nat}
theorem LsC.head (L : LsC C D B j F) (hc : Calm D) (hm : ∀ x, D.med x < 18446744073709551616) : (⟨(getT D 0).toArray⟩ : ByteArray) = headS C :=
  bytes_eq (line_size D 0) (headS_size C) fun k hk => by rw [line_words hc hm k hk, Nat.mul_zero, Nat.zero_add, L.hd k hk]; rfl
set_option maxRecDepth 100000 in
set_option maxHeartbeats 16000000 in
theorem fopen_ok (h : DevIs w a D) (hC : OkC C) (hn : sizeC C ≤ (D.n : Int)) (hc : Calm D) (L : LsC C D B j F) (hj : ∀ q, q < cR C → j q ≤ 4294967295) :
    Calls Tryz.prog 55 #[.pointer (some ⟨a.bd, 0, none⟩)] w fun e w' => ∃ A : FlA, e = .returned (.tuple #[.pointer (some ⟨A.fb, 0, none⟩), .int .i64 0]) ∧ FlIs w' A a C B 64 j (fun _ => 0) ∧ (∀ x ∈ A.all (cR C), w.heap.size ≤ x) ∧ Gr [] w w' := by
  obtain ⟨ip, hip, hpz0, hpz1, hpz2⟩ := info_parts infoPtr9
  obtain ⟨im, him, hmz0, hmz1, hmz2⟩ := info_parts infoPerm9
  have HIP := Lib.hid (And.intro hip (And.intro hpz0 (And.intro hpz1 hpz2)))
  have HIM := Lib.hid (And.intro him (And.intro hmz0 (And.intro hmz1 hmz2)))
  have hmed := h.ok.medB
  have hs := L.head hc hmed
  obtain ⟨S, hS⟩ : ∃ S, S = headS C := ⟨_, rfl⟩
  have hwf := hC.wf
  have hSz : S.size = 64 := by rw [hS]; exact headS_size C
  have HGt := Lib.hid (fun W (d : DevIs W a D) => show Calls Tryz.prog 88 #[.pointer (some ⟨a.bd, 0, none⟩), .int .i64 0] W (fun e w' => e = .returned (.tuple #[.string S, .int .i64 0]) ∧ Gr [] W w') from by
    rw [hS, ← hs]
    exact get_yes a D 0 W d (by have := h.ok.lo; omega) hc.off)
  have HPr := Lib.hid (fun W => show Calls Tryz.prog 89 #[.string S] W (fun e w' => e = .returned (cfgV C) ∧ Gr [] W w') from by
    have := parse_any S hSz W
    rw [hS, show (headS C).data.toList = headL C from rfl, parZ_head hwf.2] at this
    rw [hS]
    exact this)
  have HHd := Lib.hid (fun W => show Calls Tryz.prog 86 #[.agg #[.int .i64 C.r, .int .i64 C.l, .int .i64 C.s, .int .i64 C.psi, .int .u64 (C.key : Int)]] W (fun e w' => e = .returned (.string S) ∧ Gr [] W w') from by rw [hS]; exact head_any C hwf.2 W)
  have HCk := Lib.hid (fun W => show Calls Tryz.prog 82 #[.agg #[.int .i64 C.r, .int .i64 C.l, .int .i64 C.s, .int .i64 C.psi, .int .u64 (C.key : Int)], .int .i64 (D.n : Int)] W _ from ccheck_any C hwf.1 (D.n : Int) W)
  rw [hC.check hn] at HCk
  have HRg := Lib.hid (fun (k : Nat) (hk : k < cR C) W => show Calls Tryz.prog 49 #[.agg #[.int .i64 C.r, .int .i64 C.l, .int .i64 C.s, .int .i64 C.psi, .int .u64 (C.key : Int)], .int .i64 (k : Int)] W (fun e w' => e = .returned (planRV (regC C k)) ∧ Gr [] W w') by
    rw [← regV_eq hC hk]
    exact region_any C hwf.1 (k : Int) (by omega) (by have := hC.nums; omega) W)
  have HOp := Lib.hid (fun (k : Nat) (hk : k < cR C) W (d : DevIs W a D) => by
    obtain ⟨r1, r2, r3, r4, r5, r6, r7, r8⟩ := hC.reg hk
    obtain ⟨T, t1, t2, t3⟩ := cnt_read (L.rg k hk).ti r1.ok hmed (inR (regC C k) (z := ((regC C k).l : Int) + 1) (by omega) (by omega))
    exact rgopen_ok r1 d hc.off (by
      unfold checkZ
      rw [if_pos r1.ok, if_neg]
      rw [r2]
      show ¬ (D.n : Int) < (regC C k).a + regS C
      omega) (L.rg k hk).ti.opens t1 ((t3 0 (by omega)).trans (L.rg k hk).reg) (by unfold maxLen; omega) (hj k hk))
  have HNw := Lib.hid (fun (k : Nat) W => show Calls Tryz.prog 91 #[.int .i64 C.l, .int .u64 ((keyQ C k : Nat) : Int)] W (fun e w' => e = .returned (.tuple #[.agg (permRow C k), .int .i64 0]) ∧ Gr [] W w') from by
    obtain ⟨n1, n2, n3, n4, n5, n6, _⟩ := hC.nums
    have := new_yes (cL C) (keyQ C k) W n5 (by omega) (Nat.mod_lt _ (by omega))
    rw [n2] at this
    exact this.mono fun _ _ q => ⟨q.1, .ofBelow q.2⟩)
  obtain ⟨R, hR⟩ : ∃ R, R = cR C := ⟨_, rfl⟩
  have hRr : C.r = (R : Int) := by have := hC.nums.1; omega
  have HR := Lib.hid (And.intro hR (show R ≤ 16 by have := hC.nums; omega))
  have HOK := Lib.hid hC
  have HD := Lib.hid h
  have HAL := Lib.hid h.lt
  have hkey := hC.key
  clear h hC hn hc L hj hmed hs hS hwf hSz hR hip hpz0 hpz1 hpz2 him hmz0 hmz1 hmz2
  unfold cfgV at HPr
  rw [hRr] at HPr HHd HCk HRg
  go_enter Tryz.func55, Tryz.ntmps55
  go_wp2_with fail
  with_reducible refine (HGt.out _ HD.out).mono ?_
  rintro e w2 ⟨rfl, g2⟩
  have H2 := Lib.hid (And.intro (HD.out.gr0 g2) g2)
  clear g2
  go_wp2_with fail
  with_reducible refine (HPr.out _).mono ?_
  rintro e w3 ⟨rfl, g3⟩
  have H3 := Lib.hid (And.intro (H2.out.1.gr0 g3) (H2.out.2.trans g3))
  clear g3 H2
  go_upto_region 5 with fail
  have hn := Holds.new w3 #[.int .i64 (R : Int), .int .i64 C.l, .int .i64 C.s, .int .i64 C.psi, .int .u64 (C.key : Int)] 64
  have ga := (Gr.refl [] w3).alloc (Obj.cells #[.int .i64 (R : Int), .int .i64 C.l, .int .i64 C.s, .int .i64 C.psi, .int .u64 (C.key : Int)] 64)
  have H4 := Lib.hid (And.intro hn (And.intro (H3.out.1.gr0 ga) (H3.out.2.trans ga)))
  have HL3 := Lib.hid (H3.out.2.size)
  clear hn ga H3
  generalize w3.alloc (Obj.cells #[.int .i64 (R : Int), .int .i64 C.l, .int .i64 C.s, .int .i64 C.psi, .int .u64 (C.key : Int)] 64) = w4 at *
  obtain ⟨cb, hcb⟩ : ∃ cb, w3.heap.size = cb := ⟨_, rfl⟩
  rw [hcb] at H4 HL3 ⊢
  clear hcb
  have k0 := kp_cell (H4.out.1.cell 0)
  have k1 := kp_cell (H4.out.1.cell 1)
  have k2 := kp_cell (H4.out.1.cell 2)
  have k3 := kp_cell (H4.out.1.cell 3)
  have k4 := kp_cell (H4.out.1.cell 4)
  have hne := kp_ne w4
  refine wp_region_kp (by kernel_rfl) (by kernel_rfl) ?_
  repeat (go_big_quiet_step ((rename_i x; first
    | with_reducible exact kp_call x (linesK (H4.out.2.1.kp x.h))
    | with_reducible exact kp_call x ((HHd.out _).mono fun _ _ q => ⟨q.1, q.2.below0⟩)
    | with_reducible exact kp_call x ((HCk.out _).mono fun _ _ q => ⟨q.1, q.2.below0⟩))))
  with_reducible refine wpQuiet_nil ?_
  rintro _ ⟨y, rfl⟩
  have gy : Gr [] w4 y.w := Gr.ofBelow (cs := []) y.h
  have H5 := Lib.hid (And.intro (H4.out.1.gr0 gy) (And.intro (H4.out.2.1.gr0 gy) (H4.out.2.2.trans gy)))
  clear k0 k1 k2 k3 k4 hne gy H4
  generalize y.w = w5 at *
  clear y
  have c0 : w5.cell? ⟨cb, 0, none⟩ = some (.int .i64 (R : Int)) := H5.out.1.cell 0
  have c1 : w5.cell? ⟨cb, 1, none⟩ = some (.int .i64 C.l) := H5.out.1.cell 1
  have c2 : w5.cell? ⟨cb, 2, none⟩ = some (.int .i64 C.s) := H5.out.1.cell 2
  have c3 : w5.cell? ⟨cb, 3, none⟩ = some (.int .i64 C.psi) := H5.out.1.cell 3
  have c4 : w5.cell? ⟨cb, 4, none⟩ = some (.int .u64 (C.key : Int)) := H5.out.1.cell 4
  go_upto_region 8 with fail
  clear c0 c1 c2 c3 c4
  have hn := Holds.new w5 #[.int .i64 (R : Int), .int .i64 C.l, .int .i64 C.s, .int .i64 C.psi, .int .u64 (C.key : Int), .slice none 0 0, .slice none 0 0] 136
  have ga := (Gr.refl [] w5).alloc (Obj.cells #[.int .i64 (R : Int), .int .i64 C.l, .int .i64 C.s, .int .i64 C.psi, .int .u64 (C.key : Int), .slice none 0 0, .slice none 0 0] 136)
  have HL5 := Lib.hid (show w.heap.size ≤ w5.heap.size ∧ cb < w5.heap.size from ⟨H5.out.2.2.size, H5.out.1.lt⟩)
  have H6 := Lib.hid (And.intro hn (And.intro (H5.out.1.gr0 ga) (And.intro (H5.out.2.1.gr0 ga) (H5.out.2.2.trans ga))))
  clear hn ga H5
  generalize w5.alloc (Obj.cells #[.int .i64 (R : Int), .int .i64 C.l, .int .i64 C.s, .int .i64 C.psi, .int .u64 (C.key : Int), .slice none 0 0, .slice none 0 0] 136) = w6 at *
  obtain ⟨fb, hfb⟩ : ∃ fb, w5.heap.size = fb := ⟨_, rfl⟩
  rw [hfb] at H6 HL5 ⊢
  clear hfb
  have HO0 := Lib.hid (show OpI w fb a D C B j 0 0 (.slice none 0 0) (.slice none 0 0) (fun _ => 0) (fun _ => ⟨0, 0⟩) w6 from
    ⟨by unfold opRow; rw [hRr]; exact H6.out.1, ⟨rfl, .inl ⟨rfl, rfl⟩⟩, ⟨rfl, .inl ⟨rfl, rfl⟩⟩, fun q hq => absurd hq (Nat.not_lt_zero q), fun q _ hq => absurd hq (Nat.not_lt_zero q), fun q hq => absurd hq (Nat.not_lt_zero q), (fun b e => by cases e), H6.out.2.2.1, H6.out.2.2.2, HL5.out.1, HAL.out⟩)
  have HC6 := Lib.hid (And.intro H6.out.2.1 HL5.out.2)
  clear H6
  have c0 : w6.cell? ⟨cb, 0, none⟩ = some (.int .i64 (R : Int)) := HC6.out.1.cell 0
  have HRR := Lib.hid hRr
  clear hRr
  go_wp2_with fail
  clear c0
  go_loopw [38] (fun k wr => ∃ (i : Nat) (vr vp : Value) (kbs : Nat → Nat) (qs : Nat → BkA), i ≤ R ∧ k = .int .i64 i ∧ Hid (OpI w fb a D C B j i i vr vp kbs qs wr) ∧ Holds wr cb #[.int .i64 (R : Int), .int .i64 C.l, .int .i64 C.s, .int .i64 C.psi, .int .u64 (C.key : Int)] 64) (fun k _ => R - (intOf k).toNat)
  case atStart => exact ⟨0, _, _, _, _, by omega, rfl, HO0, HC6.out.1⟩
  case round =>
    obtain ⟨i, vr, vp, kbs, qs, hiR, rfl, HO, hcc⟩ := hrel
    have HCC := Lib.hid hcc
    have HCF := Lib.hid HC6.out.2
    clear hcc HO0 HC6
    have c0 : wr.cell? ⟨cb, 0, none⟩ = some (.int .i64 (R : Int)) := HCC.out.cell 0
    have c1 : wr.cell? ⟨cb, 1, none⟩ = some (.int .i64 C.l) := HCC.out.cell 1
    have c2 : wr.cell? ⟨cb, 2, none⟩ = some (.int .i64 C.s) := HCC.out.cell 2
    have c3 : wr.cell? ⟨cb, 3, none⟩ = some (.int .i64 C.psi) := HCC.out.cell 3
    have c4 : wr.cell? ⟨cb, 4, none⟩ = some (.int .u64 (C.key : Int)) := HCC.out.cell 4
    by_cases hlt : i < R
    · have hR16 : R ≤ 16 := HR.out.2
      have ij : (i : Int) < (R : Int) := by omega
      have HJ := Lib.hid (show i < cR C by rw [← HR.out.1]; exact hlt)
      have HR1 := Lib.hid (fun W => HRg.out i HJ.out W)
      have HO1 := Lib.hid (fun W d => HOp.out i HJ.out W d)
      have HN1 := Lib.hid (fun W => HNw.out i W)
      obtain ⟨pv, hpv⟩ : ∃ v, v = planRV (regC C i) := ⟨_, rfl⟩
      rw [← hpv] at HR1 HO1
      clear hpv
      have u1 : IntKind.u64.wrap (i : Int) = i := IntWalk.u64_in _ (by omega)
      have u3 : ((C.key : Int) + (i : Int)) % 18446744073709551616 = ((keyQ C i : Nat) : Int) := by unfold keyQ; omega
      have u2 : IntKind.u64.wrap ((C.key : Int) + (i : Int)) = ((keyQ C i : Nat) : Int) := (show IntKind.u64.wrap ((C.key : Int) + (i : Int)) = ((C.key : Int) + (i : Int)) % 18446744073709551616 from rfl).trans u3
      obtain ⟨kq, hkq⟩ : ∃ k, k = keyQ C i := ⟨_, rfl⟩
      rw [← hkq] at HN1 u2 u3
      obtain ⟨p0, p1, p2, p3, p4, p5, hp⟩ : ∃ p0 p1 p2 p3 p4 p5, permRow C i = #[.int .i64 p0, .int .i64 p1, .int .u16 p2, .int .u16 p3, .int .u16 p4, .int .u16 p5] := ⟨_, _, _, _, _, _, rfl⟩
      have HP := Lib.hid hp
      rw [hp] at HN1
      clear hp hkq
      go_wp2_with fail
      with_reducible refine (HR1.out _).mono ?_
      rintro e wa ⟨rfl, ga⟩
      have HA := Lib.hid (And.intro (HO.out.gr0 ga) (HCC.out.gr0 ga))
      clear ga c0 c1 c2 c3 c4 HCC HO
      go_wp2_with fail
      with_reducible refine (HO1.out _ HA.out.1.dev).mono ?_
      rintro e wb ⟨kb, qb, rfl, rb, nb, gb⟩
      have HB := Lib.hid (And.intro (HA.out.1.gr0 gb) (And.intro (HA.out.2.gr0 gb) (And.intro rb (show ∀ x ∈ kb :: qb.all, x ≠ fb ∧ vr.ownBlock ≠ some x ∧ vp.ownBlock ≠ some x ∧ w.heap.size ≤ x ∧ ∀ q2, q2 < i → x ∉ kbs q2 :: (qs q2).all from fun x hx => by
        have hxs := nb x hx
        refine ⟨?_, ?_, ?_, Nat.le_trans HA.out.1.gr.size hxs, fun q2 hq2 hx2 => ?_⟩
        · have := HA.out.1.head.lt; omega
        · intro e; have := (HA.out.1.regs.lt x e).2; omega
        · intro e; have := (HA.out.1.perms.lt x e).2; omega
        · have := HA.out.1.rlt hq2 x hx2; omega))))
      clear rb nb gb HA HO1 HR1
      have c1 : wb.cell? ⟨cb, 1, none⟩ = some (.int .i64 C.l) := HB.out.2.1.cell 1
      have c4 : wb.cell? ⟨cb, 4, none⟩ = some (.int .u64 (C.key : Int)) := HB.out.2.1.cell 4
      go_wp2_with fail
      with_reducible refine (HN1.out _).mono ?_
      rintro e wc ⟨rfl, gc⟩
      have HC1 := Lib.hid (And.intro (HB.out.1.gr0 gc) (And.intro (HB.out.2.1.gr0 gc) (And.intro (HB.out.2.2.1.gr0 gc) HB.out.2.2.2)))
      clear gc c1 c4 HB HN1
      go_upto_region 17 with fail
      have hn := Holds.new wc #[.int .i64 p0, .int .i64 p1, .int .u16 p2, .int .u16 p3, .int .u16 p4, .int .u16 p5] 139
      have ga := (Gr.refl [] wc).alloc (Obj.cells #[.int .i64 p0, .int .i64 p1, .int .u16 p2, .int .u16 p3, .int .u16 p4, .int .u16 p5] 139)
      have HD1 := Lib.hid (And.intro (HC1.out.1.gr0 ga) (And.intro (HC1.out.2.1.gr0 ga) (And.intro (HC1.out.2.2.1.gr0 ga) (And.intro HC1.out.2.2.2 hn))))
      have HPL := Lib.hid (And.intro HC1.out.1.head.lt (fun b (e : vr.ownBlock = some b) => (HC1.out.1.regs.lt b e).2))
      clear hn ga HC1
      generalize wc.alloc (Obj.cells #[.int .i64 p0, .int .i64 p1, .int .u16 p2, .int .u16 p3, .int .u16 p4, .int .u16 p5] 139) = wd at *
      obtain ⟨pb, hpb⟩ : ∃ pb, wc.heap.size = pb := ⟨_, rfl⟩
      rw [hpb] at HD1 HPL ⊢
      clear hpb
      have f5 : wd.cell? ⟨fb, 5, none⟩ = some vr := HD1.out.1.head.cell 5
      obtain ⟨aoR, capR, hvr⟩ : ∃ ao cap, vr = .slice ao i cap := own_form9 HD1.out.1.regs
      subst hvr
      have f5f := HD1.out.1.head.frozen 5
      have HRO := Lib.hid (HD1.out.1.regs.alloc (Obj.cells #[.pointer (some ⟨kb, 0, none⟩)] 104))
      have HRN := Lib.hid (Holds.new wd #[.pointer (some ⟨kb, 0, none⟩)] 104)
      have HRS := Lib.hid (show fb + 1 ≤ (wd.alloc (Obj.cells #[.pointer (some ⟨kb, 0, none⟩)] 104)).heap.size from by have := HD1.out.1.head.lt; rw [World.size_alloc]; omega)
      go_wp2_with (at_builtin; refine wpList_append_lies _ rfl _ _ 133 rfl (fb + 1) 104 ip _ 1 8 Tryz.underlying133 HIP.out.1 HIP.out.2.1 HIP.out.2.2.1 HIP.out.2.2.2 rfl (by decide) _ _ _ rfl HRO.out ⟨wd.heap.size, 0, none⟩ 1 1 [.pointer (some ⟨kb, 0, none⟩)] rfl rfl (World.news_of_block HRN.out) (one_ptr9 kb) (by decide) (by unfold maxLen; omega) (by omega) HRS.out _ rfl ?_)
      intro g5 cp5 we hown5 hgrow5 hat5 hlt5
      have HE := Lib.hid (HD1.out.1.snocR (w2 := wd.alloc (Obj.cells #[.pointer (some ⟨kb, 0, none⟩)] 104)) HD1.out.2.2.1 HD1.out.2.2.2.1 ((Gr.refl [] wd).alloc _) hown5 hgrow5 (by rw [World.size_alloc]; exact hat5))
      have gE := (((Gr.refl [] wd).alloc (Obj.cells #[.pointer (some ⟨kb, 0, none⟩)] 104)).of0 (cs := (Value.slice aoR i capR).ownBlock.toList)).trans (gr_grown9 hgrow5)
      have hfbn : fb ∉ (Value.slice aoR i capR).ownBlock.toList := fun e => by have := (HD1.out.1.regs.lt fb (by simpa using e)).1; omega
      have hd5 := HD1.out.1.head.gr gE hfbn
      have s5 : we.cell? ⟨fb, 5, none⟩ = some (.slice aoR i capR) := hd5.cell 5
      have s5f := hd5.frozen 5
      have HPB := Lib.hid (show Holds (we.setCell ⟨fb, 5, none⟩ (.slice (some ⟨g5, 0, none⟩) (i + 1) cp5)) pb #[.int .i64 p0, .int .i64 p1, .int .u16 p2, .int .u16 p3, .int .u16 p4, .int .u16 p5] 139 from by
        have := HPL.out.1
        exact (HD1.out.2.2.2.2.gr gE (fun e => by have := HPL.out.2 pb (by simpa using e); omega)).far (a := ⟨fb, 5, none⟩) (by show pb ≠ fb; omega) _)
      have HCB := Lib.hid (show Holds (we.setCell ⟨fb, 5, none⟩ (.slice (some ⟨g5, 0, none⟩) (i + 1) cp5)) cb #[.int .i64 (R : Int), .int .i64 C.l, .int .i64 C.s, .int .i64 C.psi, .int .u64 (C.key : Int)] 64 from by
        have := HCF.out
        refine (HD1.out.2.1.gr gE (fun e => by have := (HD1.out.1.regs.lt cb (by simpa using e)).1; omega)).far (a := ⟨fb, 5, none⟩) (by show cb ≠ fb; omega) _)
      clear hown5 hgrow5 hat5 hlt5 gE hfbn hd5 f5 f5f
      go_upto_region 18 with fail
      clear s5 s5f HRO HRN HRS HD1 HPL
      generalize we.setCell ⟨fb, 5, none⟩ (.slice (some ⟨g5, 0, none⟩) (i + 1) cp5) = W at *
      obtain ⟨aoP, capP, hvp⟩ : ∃ ao cap, vp = .slice ao i cap := own_form9 HE.out.perms
      subst hvp
      have f6 : W.cell? ⟨fb, 6, none⟩ = some (.slice aoP i capP) := HE.out.head.cell 6
      have y0 : W.cell? ⟨pb, 0, none⟩ = some (.int .i64 p0) := HPB.out.cell 0
      have y1 : W.cell? ⟨pb, 1, none⟩ = some (.int .i64 p1) := HPB.out.cell 1
      have y2 : W.cell? ⟨pb, 2, none⟩ = some (.int .u16 p2) := HPB.out.cell 2
      have y3 : W.cell? ⟨pb, 3, none⟩ = some (.int .u16 p3) := HPB.out.cell 3
      have y4 : W.cell? ⟨pb, 4, none⟩ = some (.int .u16 p4) := HPB.out.cell 4
      have y5 : W.cell? ⟨pb, 5, none⟩ = some (.int .u16 p5) := HPB.out.cell 5
      have gA := Lib.hid ((Gr.refl [] W).alloc (Obj.cells #[.int .i64 p0, .int .i64 p1, .int .u16 p2, .int .u16 p3, .int .u16 p4, .int .u16 p5] 139))
      have f6a : ((W.alloc (Obj.cells #[.int .i64 p0, .int .i64 p1, .int .u16 p2, .int .u16 p3, .int .u16 p4, .int .u16 p5] 139)).drew).cell? ⟨fb, 6, none⟩ = some (.slice aoP i capP) := (HE.out.head.gr0 gA.out).cell 6
      have HBS := Lib.hid (show fb + 1 ≤ ((W.alloc (Obj.cells #[.int .i64 p0, .int .i64 p1, .int .u16 p2, .int .u16 p3, .int .u16 p4, .int .u16 p5] 139)).drew).heap.size from by
        have := HE.out.head.lt
        show _ ≤ (W.alloc _).heap.size
        rw [World.size_alloc]
        omega)
      have HONE := Lib.hid (one_perm9 C i)
      rw [HP.out] at HONE
      go_region_law ((have hT3 := HE.out.perms.alloc (Obj.cells #[.int .i64 p0, .int .i64 p1, .int .u16 p2, .int .u16 p3, .int .u16 p4, .int .u16 p5] 139); have hn3 := World.news_of_block (Holds.new W #[.int .i64 p0, .int .i64 p1, .int .u16 p2, .int .u16 p3, .int .u16 p4, .int .u16 p5] 139); refine step_append_lies _ rfl _ _ 134 rfl (fb + 1) 139 im _ 6 24 Tryz.underlying134 HIM.out.1 HIM.out.2.1 HIM.out.2.2.1 HIM.out.2.2.2 rfl (by decide) (.slice aoP i capP) i (permL C i) rfl hT3 ⟨W.heap.size, 0, none⟩ 1 1 [.int .i64 p0, .int .i64 p1, .int .u16 p2, .int .u16 p3, .int .u16 p4, .int .u16 p5] rfl rfl hn3 HONE.out Nat.one_pos (by unfold maxLen; omega) (by omega) HBS.out _ rfl ?_; intro g6 cp6 w7 hown6 hgrow6 hat6 hlt6; have gF := (gA.out.drew.of0 (cs := (Value.slice aoP i capP).ownBlock.toList)).trans (gr_grown9 hgrow6); have hfb6 : fb ∉ (Value.slice aoP i capP).ownBlock.toList := (fun e => by have := (HE.out.perms.lt fb (by simpa using e)).1; omega); have hd6 := HE.out.head.gr gF hfb6; have s6a : w7.cell? ⟨fb, 6, none⟩ = some (.slice aoP i capP) := hd6.cell 6; have s6f := hd6.frozen 6; have HR6 := Lib.hid (HE.out.snocP gA.out.drew (by rw [HP.out]; exact hown6) hgrow6 hat6); have HC7 := Lib.hid ((HCB.out.gr gF (fun e => by have h1 := (HE.out.perms.lt cb (by simpa using e)).1; have h2 := HCF.out; omega)).far (a := ⟨fb, 6, none⟩) (by have h2 := HCF.out; show cb ≠ fb; omega) (.slice (some ⟨g6, 0, none⟩) (i + 1) cp6)); clear hown6 hgrow6 hat6 hlt6 hd6 gF hfb6 hT3 hn3))
      all_goals
        go_wp2_with fail
        go_roundw
        case rel => exact ⟨i + 1, _, _, _, _, by omega, by go_num, HR6, HC7.out⟩
        case measure => simp [intOf]; omega
    · obtain rfl : i = R := by omega
      have ij : ¬ ((i : Int) < (i : Int)) := by omega
      go_wp2_with fail
      obtain ⟨A, a1, a2, a3⟩ := OpI.done HOK.out (by rw [← HR.out.1]; exact HO.out)
      subst a1
      exact bodyPost_ret (v := .tuple #[.pointer (some ⟨A.fb, 0, none⟩), .int .i64 0]) (by simp [results, Tryz.results55, go_sem]) rfl ⟨A, rfl, a2, a3, HO.out.gr⟩
end
end Go.Proofs.YtifekejcbhllpaaGreat
