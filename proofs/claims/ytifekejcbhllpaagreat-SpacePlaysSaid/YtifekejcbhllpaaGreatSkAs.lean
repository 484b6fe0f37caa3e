/-
  Layer 9: Format of a bank, of a region, of any device.
-/
import Derived.Test.YtifekejcbhllpaaGreatSkAr

namespace Go.Proofs.YtifekejcbhllpaaGreat
open Go.RowKit
set_option linter.unusedVariables false

/-- A bank's lines that are formatted, from k on, r of them: the answer, the device. -/
def fmtZ (p : PlanZ) : Nat → Nat → DevS → Int × DevS
  | 0, _, D => (0, D)
  | r + 1, k, D => if (putE D (p.a + (k : Int)) zeroT).1 ≠ 0 then putE D (p.a + (k : Int)) zeroT else fmtZ p r (k + 1) (putE D (p.a + (k : Int)) zeroT).2
theorem pair_ne {x : Int × DevS} {e : Int} {D : DevS} (h : (e, D) = x) : e = x.1 ∧ D = x.2 := by rw [← h]; exact ⟨rfl, rfl⟩
section
variable {w : World} {a : DevA} {D : DevS} {p : PlanZ} {c : Nat}
set_option maxRecDepth 100000 in
set_option maxHeartbeats 8000000 in
theorem format_gen (h : DevIs w a D) (hb : Bd D c) (hc : c < 900000000) (hp : checkZ p (D.n : Int) = 0) :
    Calls Tryz.prog 113 #[.pointer (some ⟨a.bd, 0, none⟩), planV p] w fun e w' => e = .returned (.int .i64 (fmtZ p (tabZ p + p.l).toNat 0 D).1) ∧ DevIs w' a (fmtZ p (tabZ p + p.l).toNat 0 D).2 ∧ Bd (fmtZ p (tabZ p + p.l).toNat 0 D).2 (c + 10 * (tabZ p + p.l).toNat) ∧ Gr a.all w w' := by
  obtain ⟨hok, hsz⟩ := check_ok hp
  obtain ⟨h1, h2, h3, h4, h5, h6⟩ := (okZ_iff p).1 hok
  have ht : 0 ≤ tabZ p ∧ tabZ p ≤ 8 := by unfold tabZ; omega
  have hs : sizeZ p = tabZ p + p.l + p.s := by unfold sizeZ; rw [if_pos hok]
  obtain ⟨L, hL⟩ : ∃ L : Nat, tabZ p + p.l = (L : Int) := ⟨(tabZ p + p.l).toNat, by omega⟩
  rw [hL, Int.toNat_natCast]
  have hL2 : L ≤ 1034 := by omega
  obtain ⟨c0, c1, c2⟩ := plan_cells p w
  have HG := Lib.hid ((Gr.refl [] w).alloc (Obj.cells #[.int .i64 p.a, .int .i64 p.l, .int .i64 p.s] 117))
  obtain ⟨w1, hw1⟩ : ∃ w1, w1 = w.alloc (Obj.cells #[.int .i64 p.a, .int .i64 p.l, .int .i64 p.s] 117) := ⟨_, rfl⟩
  obtain ⟨pb, hpb⟩ : ∃ pb, pb = w.heap.size := ⟨_, rfl⟩
  rw [← hpb] at c0 c1 c2
  have hl : pb < w1.heap.size := by rw [hpb, hw1, World.size_alloc]; omega
  have HNP := Lib.hid (show pb ∉ a.all from fun q => by have := h.lt _ q; omega)
  have HC := Lib.hid (fun W => show Calls Tryz.prog 79 #[.agg #[.int .i64 p.a, .int .i64 p.l, .int .i64 p.s], .int .i64 (D.n : Int)] W _ from check_any p (D.n : Int) W)
  have HT := Lib.hid (fun W => show Calls Tryz.prog 81 #[.agg #[.int .i64 p.a, .int .i64 p.l, .int .i64 p.s]] W _ from table_any p hok W)
  have HTx := Lib.hid (fun W => text_any 0 0 0 0 0 0 0 0 (by decide) W)
  rw [hp] at HC
  obtain ⟨t, htt⟩ : ∃ t, t = tabZ p := ⟨_, rfl⟩
  rw [← htt] at HT hL ht
  have i1 : IntKind.i64.wrap (t + p.l) = t + p.l := IntWalk.i64_in _ (by omega)
  have HD := Lib.hid h
  have HF := Lib.hid (And.intro hb h1)
  have HL := Lib.hid hL
  have HA := Lib.hid h2
  obtain ⟨X, hX⟩ : ∃ X, X = fmtZ p L 0 D := ⟨_, rfl⟩
  have HX := Lib.hid hX
  rw [← hX]
  clear h hp hb htt hok hsz hs h1 h2 h3 h4 h5 h6 ht hL hX
  unfold planV
  go_enter Tryz.func113, Tryz.ntmps113
  go_wp2_with fail
  rw [← hw1] at c0 c1 c2 HG ⊢
  rw [← hpb]
  clear hw1 hpb
  have k0 := kp_cell c0
  have k1 := kp_cell c1
  have k2 := kp_cell c2
  have hne := kp_ne w1
  have HD1 := Lib.hid (HD.out.gr0 HG.out)
  refine wp_region_kp (by kernel_rfl) (by kernel_rfl) ?_
  repeat (go_big_quiet_step ((rename_i x; first | exact kp_call x (linesK (HD1.out.kp x.h)) | exact kp_call x (HC.out _))))
  with_reducible refine wpQuiet_nil ?_
  rintro _ ⟨y, rfl⟩
  have HG2 := Lib.hid (HG.out.nextB y.h)
  have HD2 := Lib.hid (HD1.out.kp y.h)
  replace c0 := k0 y
  replace c1 := k1 y
  replace c2 := k2 y
  clear k0 k1 k2 hne
  generalize y.w = w2 at *
  clear y
  go_wp2_with fail
  refine (HTx.out _).mono ?_
  rintro e w3 ⟨rfl, hb3⟩
  have hl2 : pb < w2.heap.size := World.block_lt_of_cell? w2 _ c0
  have HG3 := Lib.hid (HG2.out.nextB hb3)
  have HD3 := Lib.hid (HD2.out.gr0 (Gr.ofBelow hb3))
  replace c0 := (hb3.cell (p := ⟨pb, 0, none⟩) hl2).trans c0
  replace c1 := (hb3.cell (p := ⟨pb, 1, none⟩) hl2).trans c1
  replace c2 := (hb3.cell (p := ⟨pb, 2, none⟩) hl2).trans c2
  clear hb3 hl2 HC HTx HD1 HD2 HG HG2 hl
  obtain ⟨Z, hZ⟩ : ∃ Z : ByteArray, Z = ⟨(catL [0, 0, 0, 0, 0, 0, 0, 0]).toArray⟩ := ⟨_, rfl⟩
  have HZ := Lib.hid (show Z = zeroT from hZ)
  rw [← hZ]
  clear hZ
  have k0 := kp_cell c0
  have k1 := kp_cell c1
  have k2 := kp_cell c2
  have hne := kp_ne w3
  go_wp2_with fail
  refine wp_region_kp (by kernel_rfl) (by kernel_rfl) ?_
  repeat (go_big_quiet_step ((rename_i x; exact kp_call x (HT.out _))))
  with_reducible refine wpQuiet_nil ?_
  rintro _ ⟨y, rfl⟩
  have HG4 := Lib.hid (HG3.out.nextB y.h)
  have HD4 := Lib.hid (HD3.out.kp y.h)
  replace c0 := k0 y
  clear k0 k1 k2 hne HG3 HD3 c1 c2
  generalize y.w = w4 at *
  clear y
  rw [HL.out]
  clear i1
  go_wp2_with fail
  go_loopw [25] (fun k wr => ∃ (j : Nat) (Dj : DevS), j ≤ L ∧ k = .int .i64 j ∧ Hid (fmtZ p (L - j) j Dj = X) ∧ DevIs wr a Dj ∧ Bd Dj (c + 10 * j) ∧ wr.cell? ⟨pb, 0, none⟩ = some (.int .i64 p.a) ∧ Gr a.all w wr) (fun k _ => L - (intOf k).toNat)
  case atStart => exact ⟨0, D, by omega, rfl, Lib.hid (by rw [HX.out]; rfl), HD4.out, HF.out.1, c0, HG4.out.of0⟩
  case round =>
    obtain ⟨j, Dj, hj, rfl, hx', hd', hb', c0', g'⟩ := hrel
    have HH := Lib.hid (And.intro hd' (And.intro hb' g'))
    clear hd' hb' g' c0
    by_cases hjL : j < L
    · have ij : (j : Int) < (L : Int) := by omega
      have i2 : IntKind.i64.wrap (p.a + (j : Int)) = p.a + (j : Int) := IntWalk.i64_in _ (by have := HA.out; have := HF.out.2; omega)
      have HP := Lib.hid (lput_any a Dj (p.a + (j : Int)) Z (c + 10 * j) wr HH.out.1 HH.out.2.1 (by omega) (by rw [HZ.out, zeroT_size]; unfold maxLen; omega))
      obtain ⟨m, hm⟩ : ∃ m, L - j = m + 1 := ⟨L - j - 1, by omega⟩
      have hx2 := hx'.out
      rw [hm, fmtZ, ← HZ.out] at hx2
      obtain ⟨e1, he1⟩ : ∃ e, e = (putE Dj (p.a + (j : Int)) Z).1 := ⟨_, rfl⟩
      obtain ⟨D1, hD1⟩ : ∃ D1, D1 = (putE Dj (p.a + (j : Int)) Z).2 := ⟨_, rfl⟩
      rw [← he1, ← hD1] at HP
      by_cases hz : e1 = 0
      · rw [if_neg (by rw [← he1]; simpa using hz), ← hD1] at hx2
        have HX2 := Lib.hid (show fmtZ p (L - (j + 1)) (j + 1) D1 = X by rw [show L - (j + 1) = m by omega]; exact hx2)
        clear hx2 hx' he1 hD1 hm
        subst hz
        go_wp2_with fail
        refine HP.out.mono ?_
        rintro e w5 ⟨rfl, hd5, hb5, g5⟩
        have H5 := Lib.hid (And.intro hd5 (And.intro hb5 (And.intro ((World.cell?_of_block (w := wr) (g5.block pb (World.block_lt_of_cell? wr _ c0') HNP.out)).trans c0') (HH.out.2.2.trans g5))))
        clear hd5 hb5 g5
        go_wp2_with fail
        go_roundw
        case rel => exact ⟨j + 1, D1, by omega, by go_num, HX2, H5.out.1, H5.out.2.1.mono (by omega), H5.out.2.2.1, H5.out.2.2.2⟩
        case measure => simp [intOf]; omega
      · rw [if_pos (by rw [← he1]; exact hz)] at hx2
        have HX2 := Lib.hid (show e1 = X.1 ∧ D1 = X.2 from ⟨by rw [he1, hx2], by rw [hD1, hx2]⟩)
        have hz' : (e1 != 0) = true := by simpa using hz
        clear hx2 hx' he1 hD1 hm hz
        go_wp2_with fail
        refine HP.out.mono ?_
        rintro e w5 ⟨rfl, hd5, hb5, g5⟩
        have H5 := Lib.hid (And.intro hd5 (And.intro hb5 (HH.out.2.2.trans g5)))
        clear hd5 hb5 g5
        go_wp2_with fail
        go_ret
        exact ⟨by rw [← HX2.out.1]; rfl, by rw [← HX2.out.2]; exact H5.out.1, by rw [← HX2.out.2]; exact H5.out.2.1.mono (by omega), H5.out.2.2⟩
    · obtain rfl : j = L := by omega
      have ij : ¬ ((j : Int) < (j : Int)) := by omega
      have hx2 := hx'.out
      rw [Nat.sub_self, fmtZ] at hx2
      have HX2 := Lib.hid (pair_ne hx2)
      clear hx2 hx'
      go_wp2_with fail
      go_ret
      exact ⟨by rw [← HX2.out.1]; rfl, by rw [← HX2.out.2]; exact HH.out.1, by rw [← HX2.out.2]; exact HH.out.2.1, HH.out.2.2⟩
end
section
variable {w w' : World} {kb : Nat} {q : BkA} {a : DevA} {P : PlanR} {B : BkS} {m j c cc : Nat} {D : DevS}
/-- A region that is formatted: the answer, the device. -/
def rfmtZ (P : PlanR) (D : DevS) : Int × DevS :=
  if (fmtZ (bankR P) (tabZ (bankR P) + (bankR P).l).toNat 0 D).1 ≠ 0 then fmtZ (bankR P) (tabZ (bankR P) + (bankR P).l).toNat 0 D
  else ((writeWordS (bankR P) ((P.l : Int) + 1) 0 (pkN P 0) (fmtZ (bankR P) (tabZ (bankR P) + (bankR P).l).toNat 0 D).2 ⟨0, fun _ => none⟩).1, (writeWordS (bankR P) ((P.l : Int) + 1) 0 (pkN P 0) (fmtZ (bankR P) (tabZ (bankR P) + (bankR P).l).toNat 0 D).2 ⟨0, fun _ => none⟩).2.1)
set_option maxRecDepth 100000 in
set_option maxHeartbeats 8000000 in
/-- Format of any device. -/
theorem rgformat_gen (hP : OkR P) (h : DevIs w a D) (hb : Bd D cc) (hcc : cc < 400000000) (hp : checkZ (bankR P) (D.n : Int) = 0)
    (hO : (fmtZ (bankR P) (tabZ (bankR P) + (bankR P).l).toNat 0 D).1 = 0 → (fmtZ (bankR P) (tabZ (bankR P) + (bankR P).l).toNat 0 D).2.off = false ∧ (fmtZ (bankR P) (tabZ (bankR P) + (bankR P).l).toNat 0 D).2.n = D.n ∧ ∀ k : Nat, (k : Int) < P.s → loadV (fmtZ (bankR P) (tabZ (bankR P) + (bankR P).l).toNat 0 D).2 (8 * P.a.toNat + k) = 0) :
    Calls Tryz.prog 85 #[.pointer (some ⟨a.bd, 0, none⟩), planRV P] w fun e w' => e = .returned (.int .i64 (rfmtZ P D).1) ∧ DevIs w' a (rfmtZ P D).2 ∧ Bd (rfmtZ P D).2 (cc + 12000) ∧ Gr a.all w w' := by
  obtain ⟨hok, hsz⟩ := check_ok hp
  obtain ⟨h1, h2, h3, h4, h5, h6⟩ := (okZ_iff (bankR P)).1 hok
  have ht : 0 ≤ tabZ (bankR P) ∧ tabZ (bankR P) ≤ 8 := by unfold tabZ; omega
  have hs : sizeZ (bankR P) = tabZ (bankR P) + (bankR P).l + (bankR P).s := by unfold sizeZ; rw [if_pos hok]
  obtain ⟨L, hL⟩ : ∃ L : Nat, L = (tabZ (bankR P) + (bankR P).l).toNat := ⟨_, rfl⟩
  have hL2 : L ≤ 1034 := by omega
  have HFm := Lib.hid (fun W (g : Gr [] w W) => format_gen (p := bankR P) (h.gr0 g) hb (by omega) hp)
  have hR : rfmtZ P D = if (fmtZ (bankR P) L 0 D).1 ≠ 0 then fmtZ (bankR P) L 0 D else ((writeWordS (bankR P) ((P.l : Int) + 1) 0 (pkN P 0) (fmtZ (bankR P) L 0 D).2 ⟨0, fun _ => none⟩).1, (writeWordS (bankR P) ((P.l : Int) + 1) 0 (pkN P 0) (fmtZ (bankR P) L 0 D).2 ⟨0, fun _ => none⟩).2.1) := by rw [hL]; rfl
  rw [← hL] at HFm hO
  obtain ⟨e1, he1⟩ : ∃ e, e = (fmtZ (bankR P) L 0 D).1 := ⟨_, rfl⟩
  obtain ⟨F, hF⟩ : ∃ F, F = (fmtZ (bankR P) L 0 D).2 := ⟨_, rfl⟩
  rw [← he1, ← hF] at HFm hO hR
  have hFF : fmtZ (bankR P) L 0 D = (e1, F) := by rw [he1, hF]
  rw [hFF] at hR
  clear hFF
  by_cases hz : e1 = 0
  case neg =>
    rw [if_pos hz] at hR
    have hz' : (e1 != 0) = true := by simpa using hz
    have HRR := Lib.hid hR
    have HB := Lib.hid (fun W => show Calls Tryz.prog 51 #[.agg #[.int .i64 P.a, .int .i64 (P.l : Int), .int .i64 P.s, .int .i64 P.psi]] W _ from bankf_any hP W)
    have HC := Lib.hid (fun W => show Calls Tryz.prog 50 #[.agg #[.int .i64 P.a, .int .i64 (P.l : Int), .int .i64 P.s, .int .i64 P.psi], .int .i64 (D.n : Int)] W _ from rgcheck_any hP (D.n : Int) W)
    rw [hp] at HC
    obtain ⟨bv, hbv⟩ : ∃ bv, bv = planV (bankR P) := ⟨_, rfl⟩
    rw [← hbv] at HB HFm
    obtain ⟨c0, c1, c2, c3⟩ := planR_cells P w
    have HG := Lib.hid ((Gr.refl [] w).alloc (Obj.cells #[.int .i64 P.a, .int .i64 (P.l : Int), .int .i64 P.s, .int .i64 P.psi] 114))
    obtain ⟨w1, hw1⟩ : ∃ w1, w1 = w.alloc (Obj.cells #[.int .i64 P.a, .int .i64 (P.l : Int), .int .i64 P.s, .int .i64 P.psi] 114) := ⟨_, rfl⟩
    obtain ⟨pb, hpb⟩ : ∃ pb, pb = w.heap.size := ⟨_, rfl⟩
    have HNP := Lib.hid (show pb ∉ a.all ∧ w.heap.size ≤ pb from ⟨fun e => by have := h.lt _ e; omega, by omega⟩)
    rw [← hpb, ← hw1] at c0 c1 c2 c3
    rw [← hw1] at HG
    have HD1 := Lib.hid (h.gr0 HG.out)
    have HLL := Lib.hid hL2
    rw [hR]
    unfold planRV
    clear hP h hb hp hO hok hsz h1 h2 h3 h4 h5 h6 ht hs hL hL2 hF he1 hbv hR hz
    go_enter Tryz.func85, Tryz.ntmps85
    go_upto_region 1 with fail
    rw [← hw1, ← hpb]
    clear hw1 hpb
    have k0 := kp_cell c0
    have k1 := kp_cell c1
    have k2 := kp_cell c2
    have k3 := kp_cell c3
    have hne := kp_ne w1
    go_wp2_with fail
    refine wp_region_kp (by kernel_rfl) (by kernel_rfl) ?_
    repeat (go_big_quiet_step ((rename_i x; first
      | exact kp_call x (linesK (HD1.out.kp x.h))
      | exact kp_call x ((HC.out _).mono fun _ _ q => ⟨q.1, q.2.below0⟩))))
    with_reducible refine wpQuiet_nil ?_
    rintro _ ⟨y, rfl⟩
    have gy : Gr [] w1 y.w := Gr.ofBelow (cs := []) y.h
    have HG2 := Lib.hid (HG.out.trans gy)
    replace c0 := k0 y
    replace c1 := k1 y
    replace c2 := k2 y
    replace c3 := k3 y
    clear k0 k1 k2 k3 hne gy HC HD1 HG
    generalize y.w = w2 at *
    go_wp2_with fail
    refine (HB.out _).mono ?_
    rintro e w3 ⟨rfl, g3⟩
    have HG3 := Lib.hid (HG2.out.trans g3)
    clear g3 c0 c1 c2 c3
    go_wp2_with fail
    refine (HFm.out _ HG3.out).mono ?_
    rintro e w4 ⟨rfl, d4, b4, g4⟩
    have H4 := Lib.hid (And.intro d4 (And.intro b4 ((HG3.out.of0 (cs := a.all)).trans g4)))
    clear d4 b4 g4 HFm
    go_wp2_with fail
    go_ret
    exact ⟨rfl, H4.out.1, H4.out.2.1.mono (by have := HLL.out; omega), H4.out.2.2⟩
  rw [hz] at HFm hR he1
  rw [if_neg (by simp)] at hR
  simp only at hR
  obtain ⟨x1, x2, x3⟩ := hO hz
  obtain ⟨D1, hD1⟩ : ∃ D1, D1 = (writeWordS (bankR P) ((P.l : Int) + 1) 0 (pkN P 0) F ⟨0, fun _ => none⟩).2.1 := ⟨_, rfl⟩
  obtain ⟨B1, hB1⟩ : ∃ B1, B1 = (writeWordS (bankR P) ((P.l : Int) + 1) 0 (pkN P 0) F ⟨0, fun _ => none⟩).2.2 := ⟨_, rfl⟩
  obtain ⟨eW, heW⟩ : ∃ e, e = (writeWordS (bankR P) ((P.l : Int) + 1) 0 (pkN P 0) F ⟨0, fun _ => none⟩).1 := ⟨_, rfl⟩
  have hV : writeWordS (bankR P) ((P.l : Int) + 1) 0 (pkN P 0) F ⟨0, fun _ => none⟩ = (eW, D1, B1) := by rw [heW, hD1, hB1]
  rw [← heW, ← hD1] at hR
  rw [hR]
  have HFF := Lib.hid (And.intro x1 (And.intro x2 x3))
  have HOp := Lib.hid (fun W (q1 : DevIs W a F) => open_zero (p := bankR P) q1 HFF.out.1 (by rw [HFF.out.2.1]; exact hp) HFF.out.2.2)
  obtain ⟨k1, k2⟩ := pkN_val hP 0 (by omega)
  obtain ⟨e1', e2⟩ := pkN_zero hP
  rw [e1', e2] at k1
  have HK := Lib.hid (And.intro k1 k2)
  have HWw := Lib.hid (fun W (q : BkA) (q1 : BkIs W q a (bankR P) ⟨0, fun _ => none⟩ 0) (q2 : DevIs W a F) (q3 : Bd F (cc + 10 * L)) => show Calls Tryz.prog 115 #[.pointer (some ⟨q.b, 0, none⟩), .int .i64 ((P.l : Int) + 1), .int .i64 0, .int .u64 (pkI 0 (P.l : Int) ((0 : Nat) : Int))] W _ by
    rw [← HK.out.1]
    exact bww_any ((P.l : Int) + 1) 0 (pkN P 0) q1 q2 q3 (by omega) HK.out.2 (by rw [HFF.out.2.1]; omega) (by omega))
  rw [hV] at HWw
  have HPk := Lib.hid (fun W => pack_bel 0 (P.l : Int) ((0 : Nat) : Int) W (by omega))
  have HFi := Lib.hid (fun W => first_any (P.l : Int) W (by have := hP.l1; omega) (by have := hP.l2; omega))
  have HB := Lib.hid (fun W => show Calls Tryz.prog 51 #[.agg #[.int .i64 P.a, .int .i64 (P.l : Int), .int .i64 P.s, .int .i64 P.psi]] W _ from bankf_any hP W)
  have HC := Lib.hid (fun W => show Calls Tryz.prog 50 #[.agg #[.int .i64 P.a, .int .i64 (P.l : Int), .int .i64 P.s, .int .i64 P.psi], .int .i64 (D.n : Int)] W _ from rgcheck_any hP (D.n : Int) W)
  rw [hp] at HC
  have HRg := Lib.hid (fun W => show Calls Tryz.prog 116 #[.agg #[.int .i64 P.a, .int .i64 (P.l : Int), .int .i64 P.s, .int .i64 P.psi]] W _ from reg_any hP W)
  obtain ⟨bv, hbv⟩ : ∃ bv, bv = planV (bankR P) := ⟨_, rfl⟩
  rw [← hbv] at HB HFm HOp
  obtain ⟨c0, c1, c2, c3⟩ := planR_cells P w
  have HG := Lib.hid ((Gr.refl [] w).alloc (Obj.cells #[.int .i64 P.a, .int .i64 (P.l : Int), .int .i64 P.s, .int .i64 P.psi] 114))
  obtain ⟨w1, hw1⟩ : ∃ w1, w1 = w.alloc (Obj.cells #[.int .i64 P.a, .int .i64 (P.l : Int), .int .i64 P.s, .int .i64 P.psi] 114) := ⟨_, rfl⟩
  obtain ⟨pb, hpb⟩ : ∃ pb, pb = w.heap.size := ⟨_, rfl⟩
  have HNP := Lib.hid (show pb ∉ a.all ∧ w.heap.size ≤ pb from ⟨fun e => by have := h.lt _ e; omega, by omega⟩)
  rw [← hpb, ← hw1] at c0 c1 c2 c3
  rw [← hw1] at HG
  have HD1 := Lib.hid (h.gr0 HG.out)
  have HLL := Lib.hid hL2
  unfold planRV
  clear hP h hz hb hp hO hV hok hsz h1 h2 h3 h4 h5 h6 ht hs hL hL2 hF he1 k1 k2 e1' e2 hbv hR x1 x2 x3 hD1 hB1 heW
  generalize pkI 0 (P.l : Int) ((0 : Nat) : Int) = pk at *
  go_enter Tryz.func85, Tryz.ntmps85
  go_upto_region 1 with fail
  rw [← hw1, ← hpb]
  clear hw1 hpb
  have k0 := kp_cell c0
  have k1 := kp_cell c1
  have k2 := kp_cell c2
  have k3 := kp_cell c3
  have hne := kp_ne w1
  go_wp2_with fail
  refine wp_region_kp (by kernel_rfl) (by kernel_rfl) ?_
  repeat (go_big_quiet_step ((rename_i x; first
    | exact kp_call x (linesK (HD1.out.kp x.h))
    | exact kp_call x ((HC.out _).mono fun _ _ q => ⟨q.1, q.2.below0⟩))))
  with_reducible refine wpQuiet_nil ?_
  rintro _ ⟨y, rfl⟩
  have gy : Gr [] w1 y.w := Gr.ofBelow (cs := []) y.h
  have HG2 := Lib.hid (HG.out.trans gy)
  replace c0 := k0 y
  replace c1 := k1 y
  replace c2 := k2 y
  replace c3 := k3 y
  clear k0 k1 k2 k3 hne gy HC HD1 HG
  generalize y.w = w2 at *
  go_wp2_with fail
  refine (HB.out _).mono ?_
  rintro e w3 ⟨rfl, g3⟩
  replace c0 := (g3.cell0 (World.block_lt_of_cell? w2 _ c0)).trans c0
  replace c1 := (g3.cell0 (World.block_lt_of_cell? w2 _ c1)).trans c1
  replace c2 := (g3.cell0 (World.block_lt_of_cell? w2 _ c2)).trans c2
  replace c3 := (g3.cell0 (World.block_lt_of_cell? w2 _ c3)).trans c3
  have HG3 := Lib.hid (HG2.out.trans g3)
  clear g3
  go_wp2_with fail
  refine (HFm.out _ HG3.out).mono ?_
  rintro e w4 ⟨rfl, d4, b4, g4⟩
  replace c0 := (cell_gr7 g4 (World.block_lt_of_cell? w3 _ c0) HNP.out.1).trans c0
  replace c1 := (cell_gr7 g4 (World.block_lt_of_cell? w3 _ c1) HNP.out.1).trans c1
  replace c2 := (cell_gr7 g4 (World.block_lt_of_cell? w3 _ c2) HNP.out.1).trans c2
  replace c3 := (cell_gr7 g4 (World.block_lt_of_cell? w3 _ c3) HNP.out.1).trans c3
  have H4 := Lib.hid (And.intro d4 (And.intro b4 ((HG3.out.of0 (cs := a.all)).trans g4)))
  clear d4 b4 g4 HFm
  go_wp2_with fail
  refine (HB.out _).mono ?_
  rintro e w5 ⟨rfl, g5⟩
  replace c0 := (g5.cell0 (World.block_lt_of_cell? w4 _ c0)).trans c0
  replace c1 := (g5.cell0 (World.block_lt_of_cell? w4 _ c1)).trans c1
  replace c2 := (g5.cell0 (World.block_lt_of_cell? w4 _ c2)).trans c2
  replace c3 := (g5.cell0 (World.block_lt_of_cell? w4 _ c3)).trans c3
  have H5 := Lib.hid (And.intro (H4.out.1.gr0 g5) (And.intro H4.out.2.1 (H4.out.2.2.next0 g5)))
  clear g5 H4
  go_wp2_with fail
  refine (HOp.out _ H5.out.1).mono ?_
  rintro e w6 ⟨q, rfl, kq, hq, g6⟩
  have k0 := kp_cell ((g6.cell0 (World.block_lt_of_cell? w5 _ c0)).trans c0)
  have k1 := kp_cell ((g6.cell0 (World.block_lt_of_cell? w5 _ c1)).trans c1)
  have k2 := kp_cell ((g6.cell0 (World.block_lt_of_cell? w5 _ c2)).trans c2)
  have k3 := kp_cell ((g6.cell0 (World.block_lt_of_cell? w5 _ c3)).trans c3)
  have H6 := Lib.hid (And.intro (H5.out.1.gr0 g6) (And.intro H5.out.2.1 (And.intro (H5.out.2.2.next0 g6) (And.intro kq (show ∀ x ∈ q.all, w.heap.size ≤ x from fun x hx => Nat.le_trans H5.out.2.2.size (hq x hx))))))
  have hne := kp_ne w6
  clear kq hq g6 H5 c0 c1 c2 c3
  go_wp2_with fail
  refine wp_region_kp_tail 7 (by kernel_rfl) (by kernel_rfl) ?_
  simp only [List.take_succ_cons, List.take_zero, List.drop_succ_cons, List.drop_zero]
  repeat (go_big_quiet_step ((rename_i x; first
    | exact kp_call x ((HRg.out _).mono fun _ _ q => ⟨q.1, q.2.below0⟩)
    | exact kp_call x (HFi.out _)
    | exact kp_call x (HPk.out _))))
  with_reducible refine wpQuiet_nil ?_
  rintro _ ⟨y, rfl⟩
  have gy : Gr [] w6 y.w := Gr.ofBelow (cs := []) y.h
  have H7 := Lib.hid (And.intro (H6.out.1.gr0 gy) (And.intro H6.out.2.1 (And.intro (H6.out.2.2.1.next0 gy) (And.intro (H6.out.2.2.2.1.gr0 gy) H6.out.2.2.2.2))))
  clear k0 k1 k2 k3 hne gy H6
  generalize y.w = w7 at *
  go_wp2_with fail
  refine (HWw.out _ _ H7.out.2.2.2.1 H7.out.1 H7.out.2.1).mono ?_
  rintro e w8 ⟨rfl, d8, b8, k8, g8⟩
  have H8 := Lib.hid (And.intro d8 (And.intro b8 (H7.out.2.2.1.nextN g8 fun x hx => by
    rcases List.mem_append.1 hx with hx | hx
    · exact .inr (H7.out.2.2.2.2 x hx)
    · exact .inl hx)))
  clear d8 b8 k8 g8
  go_wp2_with fail
  go_ret
  exact ⟨rfl, H8.out.1, H8.out.2.1.mono (by have := HLL.out; omega), H8.out.2.2⟩
end
end Go.Proofs.YtifekejcbhllpaaGreat
