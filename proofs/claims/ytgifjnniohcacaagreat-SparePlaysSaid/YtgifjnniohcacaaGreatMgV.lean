/-
  MgV: SpV, SpW.
-/
import Derived.Test.YtgifjnniohcacaaGreatMgF
import Derived.Test.YtgifjnniohcacaaGreatMgO
import Derived.Test.YtgifjnniohcacaaGreatMgS
import Derived.Test.YtgifjnniohcacaaGreatMgAd

/-
  Layer 5: the document's Format.
-/
namespace Go.Proofs.YtgifjnniohcacaaGreat
open Go.RowKit
set_option linter.unusedVariables false

theorem zeroT_list : zeroT = ⟨(List.replicate 64 (0 : UInt8)).toArray⟩ := by decide +kernel
theorem zero_make (W : World) : (Instr.makeSlice 107 (.int .i64 64) (.int .i64 64)).run Tryz.prog W = .ok (.slice (some ⟨W.heap.size, 0, none⟩) 64 64) (W.alloc (.cells (rowOf (fun _ => .int .u8 0) 64) 5)) :=
  make_run (.int .u8 0) 1 64 64 rfl Tryz.underlying107 infoU8 rfl (by omega) (by omega) W
theorem zero_conv (W : World) : (convert 107 9 (.slice (some ⟨W.heap.size, 0, none⟩) 64 64)).run Tryz.prog (W.alloc (.cells (rowOf (fun _ => .int .u8 0) 64) 5)) = .ok (.string zeroT) (W.alloc (.cells (rowOf (fun _ => .int .u8 0) 64) 5)) := by
  have h := run_convert_bytes_back (P := Tryz.prog) (W.alloc (.cells (rowOf (fun _ => .int .u8 0) 64) 5)) 107 9 5 ⟨W.heap.size, 0, none⟩ 64 (List.replicate 64 (0 : UInt8)) Tryz.underlying107 Tryz.underlying5 Tryz.underlying9 (fun i hi => by
    have hi8 : i < 64 := by simpa using hi
    have e : (W.alloc (.cells (rowOf (fun _ => .int .u8 0) 64) 5)).cell? (Addr.add ⟨W.heap.size, 0, none⟩ i) = (rowOf (fun _ => Value.int .u8 0) 64)[i]? := by
      have := cell_of_row (W.alloc (.cells (rowOf (fun _ => .int .u8 0) 64) 5)) W.heap.size i (rowOf (fun _ => .int .u8 0) 64) 5 (0, 0) (heap_alloc_new W _)
      unfold Addr.add
      split
      · rename_i h0; subst h0; exact this
      · simp [this]
    rw [e, rowOf_get _ _ _ hi8, List.getElem_replicate]
    rfl)
  rw [List.length_replicate, ← zeroT_list] at h
  exact h
theorem Fu.zero {D : DevS} (h : Zero D) {c : Nat} (hb : Bd D c) : Fu D c := ⟨hb, by rw [h.calm.fuse]; omega⟩
theorem fmt_bd {p : PlanZ} {D : DevS} (hz : Zero D) (ha : 0 ≤ p.a) {c : Nat} (hb : Bd D c) : ∀ k : Nat, p.a + (k : Int) ≤ (D.n : Int) → (∀ j, j ≤ k → Bd (fmtD p j D) (c + 10 * j)) → Fu (fmtD p k D) (c + 10 * k) := fun k hk h =>
  .zero (fmt_zero hz ha k hk).1 (h k (Nat.le_refl _))
section
variable {w : World} {r : RefA} {D : DevS} {p : PlanZ} {c : Nat}
set_option maxRecDepth 100000 in
set_option maxHeartbeats 8000000 in
theorem rformat_ok (h : RefIs w r D) (hz : Zero D) (hB : ∀ j : Nat, (j : Int) ≤ tabZ p + p.l → Bd (fmtD p j D) (c + 10 * j)) (hc : c < 800000) (hp : checkZ p (D.n : Int) = 0) :
    Calls Tryz.prog 29 #[.pointer (some ⟨r.rd, 0, none⟩), planV p] w fun e w' => e = .returned (.int .i64 0) ∧ RefIs w' r (fmtD p (tabZ p + p.l).toNat D) ∧ Gr r.all w w' := by
  obtain ⟨hok, hsz⟩ := check_ok hp
  obtain ⟨h1, h2, h3, h4, h5, h6⟩ := (okZ_iff p).1 hok
  have ht : 0 ≤ tabZ p ∧ tabZ p ≤ 8 := by unfold tabZ; omega
  have hs : sizeZ p = tabZ p + p.l + p.s := by unfold sizeZ; rw [if_pos hok]
  obtain ⟨L, hL⟩ : ∃ L : Nat, tabZ p + p.l = (L : Int) := ⟨(tabZ p + p.l).toNat, by omega⟩
  rw [hL, Int.toNat_natCast]
  have hLn : p.a + (L : Int) ≤ (D.n : Int) := by omega
  have hL2 : L ≤ 1034 := by omega
  have hnI : D.n ≤ 8192 := h.hi
  obtain ⟨c0, c1, c2⟩ := rplan_cells p w
  have HG := Lib.hid ((Gr.refl [] w).alloc (Obj.cells #[.int .i64 p.a, .int .i64 p.l, .int .i64 p.s] 25))
  obtain ⟨w1, hw1⟩ : ∃ w1, w1 = w.alloc (Obj.cells #[.int .i64 p.a, .int .i64 p.l, .int .i64 p.s] 25) := ⟨_, rfl⟩
  obtain ⟨pb, hpb⟩ : ∃ pb, pb = w.heap.size := ⟨_, rfl⟩
  rw [← hpb] at c0 c1 c2
  have HNP := Lib.hid (show pb ∉ r.all from fun q => by have := h.lt _ q; omega)
  have HC := Lib.hid (fun W => show Calls Tryz.prog 61 #[.agg #[.int .i64 p.a, .int .i64 p.l, .int .i64 p.s], .int .i64 (D.n : Int)] W _ from rcheck_any p (D.n : Int) W)
  have HT := Lib.hid (fun W => show Calls Tryz.prog 51 #[.agg #[.int .i64 p.a, .int .i64 p.l, .int .i64 p.s]] W _ from rtable_any p hok W)
  rw [hp] at HC
  obtain ⟨t, htt⟩ : ∃ t, t = tabZ p := ⟨_, rfl⟩
  rw [← htt] at HT hL ht hB
  have i1 : IntKind.i64.wrap (t + p.l) = t + p.l := IntWalk.i64_in _ (by omega)
  have HD := Lib.hid h
  have HF := Lib.hid (And.intro hz (And.intro hB (And.intro hLn h1)))
  have HL := Lib.hid hL
  have HA := Lib.hid h2
  clear h hp hz hB htt hok hsz hs h1 h2 h3 h4 h5 h6 ht hL hLn
  unfold planV
  go_enter Tryz.func29, Tryz.ntmps29
  go_wp2_with fail
  rw [← hw1] at c0 c1 c2 HG ⊢
  rw [← hpb]
  clear hw1 hpb
  have HD1 := Lib.hid (HD.out.gr0 HG.out)
  have d1 := HD1.out.c1
  have k0 := kp_cell c0
  have k1 := kp_cell c1
  have k2 := kp_cell c2
  have k3 := kp_cell d1
  have hne := kp_ne w1
  refine wp_region_kp (by kernel_rfl) (by kernel_rfl) ?_
  repeat (go_big_quiet_step ((rename_i x; exact kp_call x (HC.out _))))
  with_reducible refine wpQuiet_nil ?_
  rintro _ ⟨y, rfl⟩
  have HG2 := Lib.hid (HG.out.nextB y.h)
  have HD2 := Lib.hid (HD1.out.gr0 (Gr.ofBelow y.h))
  replace c0 := k0 y
  replace c1 := k1 y
  replace c2 := k2 y
  clear k0 k1 k2 k3 d1 hne HD1 HG HC
  generalize y.w = w2 at *
  clear y
  have hlt : pb < w2.heap.size := World.block_lt_of_cell? w2 _ c0
  have hmk := zero_make w2
  have hcv := zero_conv w2
  have ga := (Gr.refl [] w2).alloc (Obj.cells (rowOf (fun _ => .int .u8 0) 64) 5)
  have HG3 := Lib.hid (HG2.out.trans ga)
  have HD3 := Lib.hid (HD2.out.gr0 ga)
  have e0 := (ga.cell0 (o := 0) hlt).trans c0
  have e1 := (ga.cell0 (o := 1) hlt).trans c1
  have e2 := (ga.cell0 (o := 2) hlt).trans c2
  obtain ⟨Z, hZ⟩ : ∃ Z, Z = zeroT := ⟨_, rfl⟩
  have HZ := Lib.hid hZ
  rw [← hZ] at hcv
  clear hZ
  clear ga hlt c0 c1 c2 HG2 HD2
  generalize hrow : rowOf (fun _ => Value.int .u8 0) 64 = R at *
  clear hrow
  go_wp2_with fail
  generalize (w2.alloc (Obj.cells R 5)) = w3 at *
  refine (HT.out _).mono ?_
  rintro e w4 ⟨rfl, b4⟩
  have g4 := Gr.ofBelow (cs := []) b4
  have hlt : pb < w3.heap.size := World.block_lt_of_cell? w3 _ e0
  have f0 := (g4.cell0 (o := 0) hlt).trans e0
  have f1 := (g4.cell0 (o := 1) hlt).trans e1
  have HG4 := Lib.hid (HG3.out.trans g4)
  have HD4 := Lib.hid (HD3.out.gr0 g4)
  clear b4 g4 hlt e0 e1 e2 HG3 HD3 hmk hcv
  go_wp2_with fail
  go_loopw [5, 8] (fun e k wr => ∃ j : Nat, j ≤ L ∧ e = .int .i64 0 ∧ k = .int .i64 j ∧ RefIs wr r (fmtD p j D) ∧ wr.cell? ⟨pb, 0, none⟩ = some (.int .i64 p.a) ∧ wr.cell? ⟨pb, 1, none⟩ = some (.int .i64 p.l) ∧ Gr r.all w wr) (fun _ k _ => L - (intOf k).toNat)
  case atStart => exact ⟨0, by omega, rfl, rfl, HD4.out, f0, f1, HG4.out.of0⟩
  case round =>
    obtain ⟨j, hj, rfl, rfl, hd', c0', c1', g'⟩ := hrel
    have HH := Lib.hid (And.intro hd' (And.intro g' (And.intro c0' c1')))
    clear hd' g' f0 f1
    by_cases hjL : j < L
    · have ij : (j : Int) < t + p.l := by have := HL.out; omega
      have i2 : IntKind.i64.wrap (p.a + (j : Int)) = p.a + (j : Int) := IntWalk.i64_in _ (by have := HA.out; have := HF.out.2.2.2; omega)
      have HP := Lib.hid (rput4_any r (fmtD p j D) (p.a + (j : Int)) Z (c + 10 * j) wr HH.out.1 (.zero (fmt_zero HF.out.1 HF.out.2.2.2 j (by have := HF.out.2.2.1; omega)).1 (HF.out.2.1 j (by omega))) (by omega) (by rw [HZ.out, zeroT_size]; unfold maxLen; omega))
      rw [HZ.out, fmt_put HF.out.1 HF.out.2.2.2 j (by have := HF.out.2.2.1; omega), ← HZ.out] at HP
      go_wp2_with fail
      refine HP.out.mono ?_
      rintro e w5 ⟨rfl, hd5, g5⟩
      have hlt : pb < wr.heap.size := World.block_lt_of_cell? wr _ c0'
      have H5 := Lib.hid (And.intro hd5 (And.intro ((World.cell?_of_block (w := wr) (g5.block pb hlt HNP.out)).trans c0') (And.intro ((World.cell?_of_block (w := wr) (g5.block pb hlt HNP.out)).trans c1') (HH.out.2.1.trans g5))))
      clear hd5 g5 hlt
      go_wp2_with fail
      go_roundw
      case rel => exact ⟨j + 1, by omega, rfl, by go_num, by have := H5.out.1; rw [HZ.out] at this; exact this, H5.out.2.1, H5.out.2.2.1, H5.out.2.2.2⟩
      case measure => simp [intOf]; omega
    · obtain rfl : j = L := by omega
      have ij : ¬ ((j : Int) < t + p.l) := by have := HL.out; omega
      go_wp2_with fail
      go_ret
      exact ⟨rfl, HH.out.1, HH.out.2.1⟩
end
end Go.Proofs.YtgifjnniohcacaaGreat

/-
  Layer 5: the law's pair.
-/
namespace Go.Proofs.YtgifjnniohcacaaGreat
open Go.RowKit
set_option linter.unusedVariables false

theorem fin_bd {D : DevS} {c l : Nat} (h : Bd D c) : Bd (finS l D).2 (c + 2) := by
  unfold finS
  split
  · exact (h.flush _ _).fence _
  · exact (h.flush _ _).mono (by omega)
theorem stos_bd (l k : Nat) (f : Nat → Nat) : ∀ (m i : Nat) (D : DevS) (c : Nat), Bd D c → Bd (stos l k f m i D).2 (c + m + 2)
  | 0, i, D, c, h => by unfold stos; exact fin_bd h
  | m + 1, i, D, c, h => by
    unfold stos
    split
    · exact (stos_bd l k f m (i + 1) _ (c + 1) (h.store _ _ _)).mono (by omega)
    · exact (h.store _ _ _).mono (by omega)
theorem put_bd {D : DevS} {c : Nat} (h : Bd D c) (z : Int) (s : ByteArray) : Bd (putE D z s).2 (c + 10) := by
  unfold putE
  split
  · exact h.mono (by omega)
  · split
    · exact (stos_bd _ _ _ _ _ _ _ h).mono (by omega)
    · exact h.mono (by omega)
theorem fmt_bds {p : PlanZ} {D : DevS} {c : Nat} (h : Bd D c) : ∀ k : Nat, Bd (fmtD p k D) (c + 10 * k)
  | 0 => h
  | k + 1 => (put_bd (fmt_bds h k) _ _).mono (by omega)
theorem new_bd (n : Nat) : Bd (newD n) 0 := ⟨Nat.le_refl _, fun l => ⟨Int.le_refl _, Int.le_refl _⟩⟩
set_option maxRecDepth 100000 in
set_option maxHeartbeats 8000000 in
theorem pair_any (p : PlanZ) (hok : okZ p = true) (ha : p.a ≤ 100) (w : World) :
    Calls Tryz.prog 5 #[planV p] w fun e w' => ∃ (a : DevA) (q : BkA) (r : RefA) (F : DevS), e = .returned (.tuple #[.pointer (some ⟨a.bd, 0, none⟩), .pointer (some ⟨q.b, 0, none⟩), .pointer (some ⟨r.rd, 0, none⟩), .bool true]) ∧ DevIs w' a F ∧ BkIs w' q a p ⟨0, fun _ => none⟩ 0 ∧ RefIs w' r F ∧ (∀ x ∈ a.all, x ∉ r.all) ∧ (∀ x ∈ q.all, x ∉ r.all) ∧ TI p F ⟨0, fun _ => none⟩ ∧ Zero F ∧ Bd F 20000 ∧ (∀ x ∈ a.all, w.heap.size ≤ x) ∧ (∀ x ∈ q.all, w.heap.size ≤ x) ∧ (∀ x ∈ r.all, w.heap.size ≤ x) ∧ Gr [] w w' := by
  obtain ⟨h1, h2, h3, h4, h5, h6⟩ := (okZ_iff p).1 hok
  have ht : 0 ≤ tabZ p ∧ tabZ p ≤ 8 := by unfold tabZ; omega
  have hs : sizeZ p = tabZ p + p.l + p.s := by unfold sizeZ; rw [if_pos hok]
  obtain ⟨n, hn⟩ : ∃ n : Nat, sizeZ p + p.a + 1 = (n : Int) := ⟨(sizeZ p + p.a + 1).toNat, by omega⟩
  have hn1 : 1 ≤ n ∧ n ≤ 8192 := by omega
  have hck : checkZ p (n : Int) = 0 := by unfold checkZ; rw [if_pos hok, if_neg (by omega)]
  have hfit : p.a + sizeZ p ≤ (n : Int) := by omega
  have HK := Lib.hid (And.intro hok (And.intro hck hfit))
  have hL : p.a + (((tabZ p + p.l).toNat : Nat) : Int) ≤ (n : Int) ∧ (tabZ p + p.l).toNat ≤ 1040 := by omega
  have HF := Lib.hid (fmt_zero (p := p) (zero_new n) h1 (tabZ p + p.l).toNat hL.1)
  have HBF := Lib.hid (And.intro (fun j : Nat => fmt_bds (p := p) (new_bd n) j) hL.2)
  obtain ⟨c0, c1, c2⟩ := rplan_cells p w
  have HG := Lib.hid ((Gr.refl [] w).alloc (Obj.cells #[.int .i64 p.a, .int .i64 p.l, .int .i64 p.s] 25))
  obtain ⟨w1, hw1⟩ : ∃ w1, w1 = w.alloc (Obj.cells #[.int .i64 p.a, .int .i64 p.l, .int .i64 p.s] 25) := ⟨_, rfl⟩
  have hhol := Holds.new w #[.int .i64 p.a, .int .i64 p.l, .int .i64 p.s] 25
  obtain ⟨pb, hpb⟩ : ∃ pb, pb = w.heap.size := ⟨_, rfl⟩
  rw [← hpb] at c0 c1 c2 hhol
  have HS := Lib.hid (fun W => show Calls Tryz.prog 25 #[.agg #[.int .i64 p.a, .int .i64 p.l, .int .i64 p.s]] W _ from rsize_any p hok W)
  obtain ⟨z, hz⟩ : ∃ z, z = sizeZ p := ⟨_, rfl⟩
  rw [← hz] at HS hn hs
  have i1 : IntKind.i64.wrap (z + p.a) = z + p.a := IntWalk.i64_in _ (by omega)
  have i2 : IntKind.i64.wrap (z + p.a + 1) = z + p.a + 1 := IntWalk.i64_in _ (by omega)
  have HN := Lib.hid hn
  have HN1 := Lib.hid hn1
  clear hok hck hfit hL h1 h2 h3 h4 h5 h6 ht hs hn hn1 hz ha
  unfold planV
  go_enter Tryz.func5, Tryz.ntmps5
  go_wp2_with fail
  rw [← hw1] at c0 c1 c2 HG hhol ⊢
  rw [← hpb]
  clear hw1 hpb
  have HP1 := Lib.hid hhol
  clear hhol
  have k0 := kp_cell c0
  have k1 := kp_cell c1
  have k2 := kp_cell c2
  have hne := kp_ne w1
  refine wp_region_kp (by kernel_rfl) (by kernel_rfl) ?_
  repeat (go_big_quiet_step ((rename_i x; exact kp_call x (HS.out _))))
  with_reducible refine wpQuiet_nil ?_
  rintro _ ⟨y, rfl⟩
  have HG2 := Lib.hid (HG.out.nextB y.h)
  have HP2 := Lib.hid (HP1.out.gr0 (Gr.ofBelow y.h))
  clear k0 k1 k2 hne c0 c1 c2 HG HP1
  generalize y.w = w2 at *
  clear y
  rw [HN.out]
  clear i1 i2
  go_wp2_with fail
  refine (pmnew_yes n _ HN1.out.1 HN1.out.2).mono ?_
  rintro e w3 ⟨a, rfl, d3, hlo, g3⟩
  have HLO := Lib.hid (show ∀ x ∈ a.all, w.heap.size ≤ x from fun x hx => Nat.le_trans HG2.out.size (hlo x hx))
  have HNP := Lib.hid (show pb ∉ a.all from fun q => by have := hlo _ q; have := HP2.out.lt; omega)
  have H3 := Lib.hid (And.intro d3 (And.intro (HP2.out.gr0 g3) (HG2.out.trans g3)))
  clear d3 g3 hlo HP2 HG2
  go_wp2_with fail
  refine (rnew_any n _ HN1.out.1 HN1.out.2).mono ?_
  rintro e w4 ⟨r, rfl, r4, hro, g4⟩
  have HRO := Lib.hid (show ∀ x ∈ r.all, w.heap.size ≤ x from fun x hx => Nat.le_trans H3.out.2.2.size (hro x hx))
  have HNR := Lib.hid (show pb ∉ r.all from fun q => by have := hro _ q; have := H3.out.2.1.lt; omega)
  have HAR := Lib.hid (show ∀ x ∈ a.all, x ∉ r.all from fun x hx hr => by have := H3.out.1.lt x hx; have := hro x hr; omega)
  have R4 : RefIs w4 r (newD n) := ⟨_, r4, Says.new n⟩
  have H4 := Lib.hid (And.intro (H3.out.1.gr0 g4) (And.intro (H3.out.2.1.gr0 g4) (And.intro (H3.out.2.2.trans g4) R4)))
  clear r4 hro g4 R4 H3
  have c0 := H4.out.2.1.cell 0
  have c1 := H4.out.2.1.cell 1
  have c2 := H4.out.2.1.cell 2
  have HFm := Lib.hid (show Calls Tryz.prog 28 #[.pointer (some ⟨a.bd, 0, none⟩), .agg #[.int .i64 p.a, .int .i64 p.l, .int .i64 p.s]] w4 _ from format_ok (p := p) (c := 0) H4.out.1 (zero_new n) (new_bd n) (by omega) HK.out.2.1)
  obtain ⟨M, hM⟩ : ∃ M, M = (tabZ p + p.l).toNat := ⟨_, rfl⟩
  rw [← hM] at HFm
  have HM := Lib.hid hM
  clear hM
  go_wp2_with fail
  refine HFm.out.mono ?_
  rintro e w5 ⟨rfl, d5, _, g5⟩
  have HNa := Lib.hid (show ∀ (wa wb : World), Gr [] w wa → Gr a.all wa wb → Gr [] w wb from fun wa wb p q => p.nextN q fun x hx => .inr (HLO.out x hx))
  have HNr := Lib.hid (show ∀ (wa wb : World), Gr [] w wa → Gr r.all wa wb → Gr [] w wb from fun wa wb p q => p.nextN q fun x hx => .inr (HRO.out x hx))
  have H5 := Lib.hid (And.intro d5 (And.intro (H4.out.2.1.gr g5 HNP.out) (And.intro (HNa.out _ _ H4.out.2.2.1 g5) (H4.out.2.2.2.gr g5 (fun x hx hq => HAR.out x hq hx)))))
  clear d5 g5 c0 c1 c2 H4 HFm
  have c0 := H5.out.2.1.cell 0
  have c1 := H5.out.2.1.cell 1
  have c2 := H5.out.2.1.cell 2
  have HRf := Lib.hid (show Calls Tryz.prog 29 #[.pointer (some ⟨r.rd, 0, none⟩), .agg #[.int .i64 p.a, .int .i64 p.l, .int .i64 p.s]] w5 _ from rformat_ok (p := p) (c := 0) H5.out.2.2.2 (zero_new n) (fun j _ => HBF.out.1 j) (by omega) HK.out.2.1)
  rw [← HM.out] at HRf
  go_wp2_with fail
  refine HRf.out.mono ?_
  rintro e w6 ⟨rfl, r6, g6⟩
  have H6 := Lib.hid (And.intro (H5.out.1.gr g6 HAR.out) (And.intro (H5.out.2.1.gr g6 HNR.out) (And.intro (HNr.out _ _ H5.out.2.2.1 g6) r6)))
  clear r6 g6 c0 c1 c2 H5 HRf
  have c0 := H6.out.2.1.cell 0
  have c1 := H6.out.2.1.cell 1
  have c2 := H6.out.2.1.cell 2
  have HZf := HF.out
  rw [← HM.out] at HZf
  have HZF := Lib.hid HZf
  clear HZf
  have hz0 : ∀ k : Nat, (k : Int) < p.s → loadV (fmtD p M (newD n)) (8 * p.a.toNat + k) = 0 := fun k _ => by rw [calm_load HZF.out.1.calm]; exact HZF.out.1.med _
  have HOp := Lib.hid (show Calls Tryz.prog 23 #[.pointer (some ⟨a.bd, 0, none⟩), .agg #[.int .i64 p.a, .int .i64 p.l, .int .i64 p.s]] w6 _ from open_zero (p := p) H6.out.1 HZF.out.1.calm.off (by rw [HZF.out.2.1]; exact HK.out.2.1) hz0)
  clear hz0
  go_wp2_with fail
  refine HOp.out.mono ?_
  rintro e w7 ⟨q, rfl, k7, hq, g7⟩
  have H7 := Lib.hid (And.intro (H6.out.1.gr0 g7) (And.intro k7 (And.intro (H6.out.2.2.1.trans g7) (And.intro (H6.out.2.2.2.gr0 g7) hq))))
  have HQR := Lib.hid (show ∀ x ∈ q.all, x ∉ r.all from fun x hx hr => by have := hq x hx; have := H6.out.2.2.2.lt x hr; omega)
  have HQW := Lib.hid (show ∀ x ∈ q.all, w.heap.size ≤ x from fun x hx => Nat.le_trans H6.out.2.2.1.size (hq x hx))
  clear k7 hq g7 c0 c1 c2 H6 HOp
  go_wp2_with fail
  have hTI : TI p (fmtD p M (newD n)) ⟨0, fun _ => none⟩ := .zero HK.out.1 HZF.out.1 (by rw [HZF.out.2.1]; exact HK.out.2.2) (HZF.out.2.2.trans rfl)
  exact bodyPost_ret (v := .tuple #[.pointer (some ⟨a.bd, 0, none⟩), .pointer (some ⟨q.b, 0, none⟩), .pointer (some ⟨r.rd, 0, none⟩), .bool true]) (by simp [results, Tryz.results5, go_sem]) rfl ⟨a, q, r, fmtD p M (newD n), rfl, H7.out.1, H7.out.2.1, H7.out.2.2.2.1, HAR.out, HQR.out, hTI, HZF.out.1, (HBF.out.1 M).mono (by have := HBF.out.2; have := HM.out; omega), HLO.out, HQW.out, HRO.out, H7.out.2.2.1⟩
end Go.Proofs.YtgifjnniohcacaaGreat
