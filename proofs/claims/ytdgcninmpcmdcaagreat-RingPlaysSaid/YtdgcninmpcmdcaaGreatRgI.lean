/-
  Layer 7: wakes.
-/
import Derived.Test.YtdgcninmpcmdcaaGreatMgU
namespace Go.Proofs.YtdgcninmpcmdcaaGreat
open Go.RowKit
set_option linter.unusedVariables false

theorem fld_m (s g m : Int) (W : World) : (Instr.field 80 (.agg #[.int .i64 s, .int .i64 g, .int .u32 m]) 2).run Tryz.prog W = .ok (.int .u32 m) W := by kernel_rfl
theorem fld_g (s g m : Int) (W : World) : (Instr.field 80 (.agg #[.int .i64 s, .int .i64 g, .int .u32 m]) 1).run Tryz.prog W = .ok (.int .i64 g) W := by kernel_rfl
theorem st07 : sAt 4 0 = 0 ∧ gAt 4 0 = 4 ∧ (sAt 4 1 = 0 ∧ gAt 4 1 = 3) := by decide
set_option maxRecDepth 100000 in
set_option maxHeartbeats 8000000 in
theorem wakes07 (w : World) : Calls Tryz.prog 7 #[] w fun e w' => e = .returned (.bool true) ∧ Gr [] w w' := by
  have HFa := Lib.hid (fun W => full07 ⟨#[97]⟩ W (by show 1 ≤ _; omega))
  have HFb := Lib.hid (fun W => full07 ⟨#[98]⟩ W (by show 1 ≤ _; omega))
  obtain ⟨A, hA⟩ : ∃ A, A = fullS ⟨#[97]⟩ := ⟨_, rfl⟩
  obtain ⟨T, hT⟩ : ∃ T, T = fullS ⟨#[98]⟩ := ⟨_, rfl⟩
  have HA := Lib.hid (show A.size = 64 by rw [hA]; exact fullS_size _)
  have HT := Lib.hid (show T.size = 64 by rw [hT]; exact fullS_size _)
  rw [← hA] at HFa
  rw [← hT] at HFb
  have HFi := Lib.hid (fun W => first_any 4 W (by omega) (by omega))
  obtain ⟨z1, n1, b1⟩ := fmt_zero (p := bankR P07) (zero_new 6) (by decide) 6 (by decide)
  have hL : (tabZ (bankR P07) + (bankR P07).l).toNat = 6 := by decide
  obtain ⟨F, hF⟩ : ∃ F, F = fmtD (bankR P07) 6 (newD 6) := ⟨_, rfl⟩
  rw [← hF] at z1 n1 b1
  obtain ⟨E, f1, f2, f3, f4⟩ := gd_fresh ok07 z1 (by rw [b1]; rfl) (by rw [n1]; decide)
  obtain ⟨D2, D3, D4, D5, D6, u1, u2, u3, u4, u5, u6, v1, v2, v3, v4, v5, v6⟩ := pure07 f2 HA.out HT.out
  have hEn : E.n = 6 := f3.trans n1
  have hfit : (bankR P07).a + sizeZ (bankR P07) ≤ (6 : Int) := by decide
  have HFm := Lib.hid (fun (W : World) (a : DevA) (q1 : DevIs W a (newD 6)) => show Calls Tryz.prog 23 #[.pointer (some ⟨a.bd, 0, none⟩), .agg #[.int .i64 0, .int .i64 4, .int .i64 0, .int .i64 2]] W _ from rgformat_ok (P := P07) (D1 := E) (B1 := B0) (cc := 0) ok07 q1 (zero_new 6) rfl ⟨Nat.le_refl _, fun l => ⟨Int.le_refl _, Int.le_refl _⟩⟩ (by omega) (by decide) (by rw [hL, ← hF]; exact f1))
  have HOp := Lib.hid (fun (W : World) (a : DevA) (q1 : DevIs W a E) => show Calls Tryz.prog 20 #[.pointer (some ⟨a.bd, 0, none⟩), .agg #[.int .i64 0, .int .i64 4, .int .i64 0, .int .i64 2]] W _ from rgopen_ok (P := P07) (j := 0) ok07 q1 f2.calm.off (gd_check ok07 f2) (gd_opens ok07 f2) (gd_reads ok07 f2 (by decide) (by decide)) (by rw [line_words f2.calm f2.mb 0 (by omega), Nat.add_zero]; exact f2.reg) (by rw [line_size]; unfold maxLen; omega) (by omega))
  have HWa := Lib.hid (fun (W : World) (a : DevA) (kb : Nat) (q : BkA) (c : RgIs W kb q a P07 B0 64 0 0) (q1 : DevIs W a E) (q2 : Bd E 12000) => show Calls Tryz.prog 9 #[.pointer (some ⟨kb, 0, none⟩), .int .i64 0, .string A] W _ from rgwrite_st 0 A c q1 q2 (by omega) (by omega) (by decide) HA.out (by decide) (by rw [hEn]; exact hfit) u1)
  have HWb := Lib.hid (fun (W : World) (a : DevA) (kb : Nat) (q : BkA) (c : RgIs W kb q a P07 B0 256 0 1) (q1 : DevIs W a D2) (q2 : Bd D2 16200) => show Calls Tryz.prog 9 #[.pointer (some ⟨kb, 0, none⟩), .int .i64 3, .string T] W _ from rgwrite_st 3 T c q1 q2 (by omega) (by omega) (by decide) HT.out (by decide) (by rw [v1, hEn]; exact hfit) u2)
  have HWw := Lib.hid (fun (W : World) (a : DevA) (kb : Nat) (q : BkA) (c : RgIs W kb q a P07 B0 448 0 2) (q1 : DevIs W a D3) (q2 : Bd D3 20400) => show Calls Tryz.prog 12 #[.pointer (some ⟨kb, 0, none⟩), .int .i64 1, .int .i64 0, .int .u64 5] W _ from rgww_mv 1 0 5 c q1 q2 (by omega) (by omega) (by decide) (by omega) (by omega) (by decide) (by omega) (by rw [v2, hEn]; exact hfit) (by rw [v3, v2]) (by rw [v4, v2]) u3 u4 u5 u6)
  have HRd := Lib.hid (fun (W : World) (a : DevA) (kb : Nat) (q : BkA) (c : RgIs W kb q a P07 B0 640 1 1) (q1 : DevIs W a D6) => show Calls Tryz.prog 13 #[.pointer (some ⟨kb, 0, none⟩), .int .i64 3] W fun e w' => e = .returned (.tuple #[.string T, .int .i64 0]) ∧ Gr [] W w' by
    have r := rgread_any 3 (by decide) c q1 (by rw [v5, hEn]; exact hfit)
    rw [v6] at r
    exact r)
  have HSt0 := Lib.hid (fun (W : World) (a : DevA) (kb : Nat) (q : BkA) (m c : Nat) (h : RgIs W kb q a P07 B0 m 0 c) => show Calls Tryz.prog 29 #[.pointer (some ⟨kb, 0, none⟩)] W fun e w' => e = .returned (.agg #[.int .i64 0, .int .i64 4, .int .u32 0]) ∧ Gr [] W w' by
    have r := rstate_any h
    have e : stJ P07 0 = .agg #[.int .i64 0, .int .i64 4, .int .u32 0] := by
      show Value.agg #[.int .i64 (sAt 4 0), .int .i64 (gAt 4 0), .int .u32 ((0 : Nat) : Int)] = _
      rw [st07.1, st07.2.1]; rfl
    rw [e] at r
    exact r)
  have HSt1 := Lib.hid (fun (W : World) (a : DevA) (kb : Nat) (q : BkA) (m c : Nat) (h : RgIs W kb q a P07 B0 m 1 c) => show Calls Tryz.prog 29 #[.pointer (some ⟨kb, 0, none⟩)] W fun e w' => e = .returned (.agg #[.int .i64 0, .int .i64 3, .int .u32 1]) ∧ Gr [] W w' by
    have r := rstate_any h
    have e : stJ P07 1 = .agg #[.int .i64 0, .int .i64 3, .int .u32 1] := by
      show Value.agg #[.int .i64 (sAt 4 1), .int .i64 (gAt 4 1), .int .u32 ((1 : Nat) : Int)] = _
      rw [st07.2.2.1, st07.2.2.2]; rfl
    rw [e] at r
    exact r)
  have HSi := Lib.hid (fun (W : World) (a : DevA) (kb : Nat) (q : BkA) (h : RgIs W kb q a P07 B0 640 1 1) => show Calls Tryz.prog 31 #[.pointer (some ⟨kb, 0, none⟩)] W fun e w' => e = .returned (.int .i64 1) ∧ w' = W from rsince_any h)
  clear hA hT z1 n1 b1 hL hF f1 f2 f3 f4 u1 u2 u3 u4 u5 u6 v1 v2 v3 v4 v5 v6 hEn hfit
  have HH := Lib.hid (Holds.new w #[.int .i64 0, .int .i64 4, .int .i64 0, .int .i64 2] 60)
  have HG0 := Lib.hid ((Gr.refl [] w).alloc (Obj.cells #[.int .i64 0, .int .i64 4, .int .i64 0, .int .i64 2] 60))
  have hf0 := fld_m 0 4 0
  have hf1 := fld_m 0 3 1
  go_enter Tryz.func7, Tryz.ntmps7
  go_upto_region 2 with fail
  generalize (w.alloc (Obj.cells #[.int .i64 0, .int .i64 4, .int .i64 0, .int .i64 2] 60)) = w1 at *
  obtain ⟨pb, hpb⟩ : ∃ pb, w.heap.size = pb := ⟨_, rfl⟩
  rw [hpb] at HH ⊢
  clear hpb
  go_wp2_with fail
  refine (pmnew_yes 6 _ (by omega) (by omega)).mono ?_
  rintro e w2 ⟨a, rfl, d2, hlo, g2⟩
  have HN := Lib.hid (show ∀ (wa wb : World), Gr [] w wa → Gr a.all wa wb → Gr [] w wb from fun wa wb p q => p.nextN q fun x hx => .inr (Nat.le_trans HG0.out.size (hlo x hx)))
  have HLO := Lib.hid (show ∀ x ∈ a.all, w.heap.size ≤ x from fun x hx => Nat.le_trans HG0.out.size (hlo x hx))
  have HNP := Lib.hid (show pb ∉ a.all from fun q => by have := hlo _ q; have := HH.out.lt; omega)
  have H2 := Lib.hid (And.intro d2 (And.intro (HH.out.gr0 g2) (HG0.out.trans g2)))
  have c0 := H2.out.2.1.cell 0
  have c1 := H2.out.2.1.cell 1
  have c2 := H2.out.2.1.cell 2
  have c3 := H2.out.2.1.cell 3
  clear d2 g2 hlo HH HG0
  go_wp2_with fail
  refine (HFm.out _ a H2.out.1).mono ?_
  rintro e w3 ⟨rfl, d3, b3, g3⟩
  have H3 := Lib.hid (And.intro d3 (And.intro (H2.out.2.1.gr g3 HNP.out) (And.intro (HN.out _ _ H2.out.2.2 g3) b3)))
  clear d3 b3 g3 c0 c1 c2 c3 H2 HFm
  have c0 := H3.out.2.1.cell 0
  have c1 := H3.out.2.1.cell 1
  have c2 := H3.out.2.1.cell 2
  have c3 := H3.out.2.1.cell 3
  go_wp2_with fail
  refine (HOp.out _ a H3.out.1).mono ?_
  rintro e w4 ⟨kb, q, rfl, r4, hnew, g4⟩
  have HNQ := Lib.hid (show ∀ (wa wb : World), Gr [] w wa → Gr (kb :: (q.all ++ a.all)) wa wb → Gr [] w wb from fun wa wb p r => p.nextN r fun x hx => by
    rcases List.mem_cons.1 hx with rfl | hx
    · exact .inr (Nat.le_trans H3.out.2.2.1.size (hnew _ (by simp)))
    · rcases List.mem_append.1 hx with hx | hx
      · exact .inr (Nat.le_trans H3.out.2.2.1.size (hnew x (by simp [hx])))
      · exact .inr (HLO.out x hx))
  have H4 := Lib.hid (And.intro (H3.out.1.gr0 g4) (And.intro r4 (And.intro (H3.out.2.2.1.trans g4) H3.out.2.2.2)))
  clear r4 hnew g4 c0 c1 c2 c3 H3 HOp
  go_wp2_with fail
  refine (HSt0.out _ a kb q _ _ H4.out.2.1).mono ?_
  rintro e w5 ⟨rfl, g5⟩
  have H5 := Lib.hid (And.intro (H4.out.1.gr0 g5) (And.intro (H4.out.2.1.gr0 g5) (And.intro (H4.out.2.2.1.trans g5) H4.out.2.2.2)))
  clear g5 H4
  go_wp2_with fail
  refine (HFi.out _).mono ?_
  rintro e w6 ⟨rfl, b6⟩
  have g6 := Gr.ofBelow (cs := []) b6
  have H6 := Lib.hid (And.intro (H5.out.1.gr0 g6) (And.intro (H5.out.2.1.gr0 g6) (And.intro (H5.out.2.2.1.trans g6) H5.out.2.2.2)))
  clear g6 b6 H5
  go_wp2_with fail
  refine (HFa.out _).mono ?_
  rintro e w7 ⟨rfl, g7⟩
  have H7 := Lib.hid (And.intro (H6.out.1.gr0 g7) (And.intro (H6.out.2.1.gr0 g7) (And.intro (H6.out.2.2.1.trans g7) H6.out.2.2.2)))
  clear g7 H6
  go_wp2_with fail
  refine (HWa.out _ a kb q H7.out.2.1 H7.out.1 (H7.out.2.2.2.mono (by omega))).mono ?_
  rintro e w8 ⟨rfl, d8, b8, r8, g8⟩
  have H8 := Lib.hid (And.intro d8 (And.intro r8 (And.intro (HNQ.out _ _ H7.out.2.2.1 g8) b8)))
  clear d8 b8 r8 g8 H7
  go_wp2_with fail
  refine (HFb.out _).mono ?_
  rintro e w9 ⟨rfl, g9⟩
  have H9 := Lib.hid (And.intro (H8.out.1.gr0 g9) (And.intro (H8.out.2.1.gr0 g9) (And.intro (H8.out.2.2.1.trans g9) H8.out.2.2.2)))
  clear g9 H8
  go_wp2_with fail
  refine (HWb.out _ a kb q H9.out.2.1 H9.out.1 (H9.out.2.2.2.mono (by omega))).mono ?_
  rintro e w10 ⟨rfl, d10, b10, r10, g10⟩
  have H10 := Lib.hid (And.intro d10 (And.intro r10 (And.intro (HNQ.out _ _ H9.out.2.2.1 g10) b10)))
  clear d10 b10 r10 g10 H9
  go_wp2_with fail
  refine (HSt0.out _ a kb q _ _ H10.out.2.1).mono ?_
  rintro e w11 ⟨rfl, g11⟩
  have H11 := Lib.hid (And.intro (H10.out.1.gr0 g11) (And.intro (H10.out.2.1.gr0 g11) (And.intro (H10.out.2.2.1.trans g11) H10.out.2.2.2)))
  clear g11 H10
  go_wp2_with fail
  refine (HWw.out _ a kb q H11.out.2.1 H11.out.1 (H11.out.2.2.2.mono (by omega))).mono ?_
  rintro e w12 ⟨rfl, d12, b12, r12, g12⟩
  have H12 := Lib.hid (And.intro d12 (And.intro r12 (HNQ.out _ _ H11.out.2.2.1 g12)))
  clear d12 b12 r12 g12 H11
  go_wp2_with fail
  refine (HRd.out _ a kb q H12.out.2.1 H12.out.1).mono ?_
  rintro e w13 ⟨rfl, g13⟩
  have H13 := Lib.hid (And.intro (H12.out.2.1.gr0 g13) (H12.out.2.2.trans g13))
  clear g13 H12
  go_wp2_with fail
  refine (HFb.out _).mono ?_
  rintro e w14 ⟨rfl, g14⟩
  have H14 := Lib.hid (And.intro (H13.out.1.gr0 g14) (H13.out.2.trans g14))
  clear g14 H13
  go_wp2_with fail
  refine (HSt1.out _ a kb q _ _ H14.out.1).mono ?_
  rintro e w15 ⟨rfl, g15⟩
  have H15 := Lib.hid (And.intro (H14.out.1.gr0 g15) (H14.out.2.trans g15))
  clear g15 H14
  go_wp2_with fail
  refine (HSi.out _ a kb q H15.out.1).mono ?_
  rintro e w' ⟨rfl, rfl⟩
  go_wp2_with fail
  go_ret
  exact ⟨rfl, H15.out.2⟩
end Go.Proofs.YtdgcninmpcmdcaaGreat
