/-
  Layer 5: the document's Format.
-/
import Derived.Test.YtgifjnniohcacaaMgF
import Derived.Test.YtgifjnniohcacaaMgO
import Derived.Test.YtgifjnniohcacaaMgS
namespace Go.Proofs.Ytgifjnniohcacaa
open Go.RowKit
set_option linter.unusedVariables false

theorem zeroT_list : zeroT = ⟨(List.replicate 64 (0 : UInt8)).toArray⟩ := by decide +kernel
theorem zero_make (W : World) : (Instr.makeSlice 49 (.int .i64 64) (.int .i64 64)).run Try.prog W = .ok (.slice (some ⟨W.heap.size, 0, none⟩) 64 64) (W.alloc (.cells (rowOf (fun _ => .int .u8 0) 64) 5)) :=
  make_run (.int .u8 0) 1 64 64 rfl Try.underlying49 infoU8 rfl (by omega) (by omega) W
theorem zero_conv (W : World) : (convert 49 9 (.slice (some ⟨W.heap.size, 0, none⟩) 64 64)).run Try.prog (W.alloc (.cells (rowOf (fun _ => .int .u8 0) 64) 5)) = .ok (.string zeroT) (W.alloc (.cells (rowOf (fun _ => .int .u8 0) 64) 5)) := by
  have h := run_convert_bytes_back (P := Try.prog) (W.alloc (.cells (rowOf (fun _ => .int .u8 0) 64) 5)) 49 9 5 ⟨W.heap.size, 0, none⟩ 64 (List.replicate 64 (0 : UInt8)) Try.underlying49 Try.underlying5 Try.underlying9 (fun i hi => by
    have hi8 : i < 64 := by simpa using hi
    have e : (W.alloc (.cells (rowOf (fun _ => .int .u8 0) 64) 5)).cell? (Addr.add ⟨W.heap.size, 0, none⟩ i) = (rowOf (fun _ => Value.int .u8 0) 64)[i]? := by
      have := cell_of_row (W.alloc (.cells (rowOf (fun _ => .int .u8 0) 64) 5)) W.heap.size i (rowOf (fun _ => .int .u8 0) 64) 5 (0, 0) (heap_alloc_new W _)
      unfold Addr.add
      split
      · rename_i h0; subst h0; exact this
      · simp [this]
    rw [e, rowOf_get _ _ _ hi8, List.getElem_replicate]
    rfl)
  rw [List.length_replicate, ← zeroT_list] at h
  exact h
theorem Fu.zero {D : DevS} (h : Zero D) {c : Nat} (hb : Bd D c) : Fu D c := ⟨hb, by rw [h.calm.fuse]; omega⟩
theorem fmt_bd {p : PlanZ} {D : DevS} (hz : Zero D) (ha : 0 ≤ p.a) {c : Nat} (hb : Bd D c) : ∀ k : Nat, p.a + (k : Int) ≤ (D.n : Int) → (∀ j, j ≤ k → Bd (fmtD p j D) (c + 10 * j)) → Fu (fmtD p k D) (c + 10 * k) := fun k hk h =>
  .zero (fmt_zero hz ha k hk).1 (h k (Nat.le_refl _))
section
variable {w : World} {r : RefA} {D : DevS} {p : PlanZ} {c : Nat}
set_option maxRecDepth 100000 in
set_option maxHeartbeats 8000000 in
theorem rformat_ok (h : RefIs w r D) (hz : Zero D) (hB : ∀ j : Nat, (j : Int) ≤ tabZ p + p.l → Bd (fmtD p j D) (c + 10 * j)) (hc : c < 800000) (hp : checkZ p (D.n : Int) = 0) :
    Calls Try.prog 47 #[.pointer (some ⟨r.rd, 0, none⟩), planV p] w fun e w' => e = .returned (.int .i64 0) ∧ RefIs w' r (fmtD p (tabZ p + p.l).toNat D) ∧ Gr r.all w w' := by
  obtain ⟨hok, hsz⟩ := check_ok hp
  obtain ⟨h1, h2, h3, h4, h5, h6⟩ := (okZ_iff p).1 hok
  have ht : 0 ≤ tabZ p ∧ tabZ p ≤ 8 := by unfold tabZ; omega
  have hs : sizeZ p = tabZ p + p.l + p.s := by unfold sizeZ; rw [if_pos hok]
  obtain ⟨L, hL⟩ : ∃ L : Nat, tabZ p + p.l = (L : Int) := ⟨(tabZ p + p.l).toNat, by omega⟩
  rw [hL, Int.toNat_natCast]
  have hLn : p.a + (L : Int) ≤ (D.n : Int) := by omega
  have hL2 : L ≤ 1034 := by omega
  have hnI : D.n ≤ 8192 := h.hi
  obtain ⟨c0, c1, c2⟩ := rplan_cells p w
  have HG := Lib.hid ((Gr.refl [] w).alloc (Obj.cells #[.int .i64 p.a, .int .i64 p.l, .int .i64 p.s] 24))
  obtain ⟨w1, hw1⟩ : ∃ w1, w1 = w.alloc (Obj.cells #[.int .i64 p.a, .int .i64 p.l, .int .i64 p.s] 24) := ⟨_, rfl⟩
  obtain ⟨pb, hpb⟩ : ∃ pb, pb = w.heap.size := ⟨_, rfl⟩
  rw [← hpb] at c0 c1 c2
  have HNP := Lib.hid (show pb ∉ r.all from fun q => by have := h.lt _ q; omega)
  have HC := Lib.hid (fun W => show Calls Try.prog 8 #[.agg #[.int .i64 p.a, .int .i64 p.l, .int .i64 p.s], .int .i64 (D.n : Int)] W _ from rcheck_any p (D.n : Int) W)
  have HT := Lib.hid (fun W => show Calls Try.prog 28 #[.agg #[.int .i64 p.a, .int .i64 p.l, .int .i64 p.s]] W _ from rtable_any p hok W)
  rw [hp] at HC
  obtain ⟨t, htt⟩ : ∃ t, t = tabZ p := ⟨_, rfl⟩
  rw [← htt] at HT hL ht hB
  have i1 : IntKind.i64.wrap (t + p.l) = t + p.l := IntWalk.i64_in _ (by omega)
  have HD := Lib.hid h
  have HF := Lib.hid (And.intro hz (And.intro hB (And.intro hLn h1)))
  have HL := Lib.hid hL
  have HA := Lib.hid h2
  clear h hp hz hB htt hok hsz hs h1 h2 h3 h4 h5 h6 ht hL hLn
  unfold planV
  go_enter Try.func47, Try.ntmps47
  go_wp2_with fail
  rw [← hw1] at c0 c1 c2 HG ⊢
  rw [← hpb]
  clear hw1 hpb
  have HD1 := Lib.hid (HD.out.gr0 HG.out)
  have d1 := HD1.out.c1
  have k0 := kp_cell c0
  have k1 := kp_cell c1
  have k2 := kp_cell c2
  have k3 := kp_cell d1
  have hne := kp_ne w1
  refine wp_region_kp (by kernel_rfl) (by kernel_rfl) ?_
  repeat (go_big_quiet_step ((rename_i x; exact kp_call x (HC.out _))))
  with_reducible refine wpQuiet_nil ?_
  rintro _ ⟨y, rfl⟩
  have HG2 := Lib.hid (HG.out.nextB y.h)
  have HD2 := Lib.hid (HD1.out.gr0 (Gr.ofBelow y.h))
  replace c0 := k0 y
  replace c1 := k1 y
  replace c2 := k2 y
  clear k0 k1 k2 k3 d1 hne HD1 HG HC
  generalize y.w = w2 at *
  clear y
  have hlt : pb < w2.heap.size := World.block_lt_of_cell? w2 _ c0
  have hmk := zero_make w2
  have hcv := zero_conv w2
  have ga := (Gr.refl [] w2).alloc (Obj.cells (rowOf (fun _ => .int .u8 0) 64) 5)
  have HG3 := Lib.hid (HG2.out.trans ga)
  have HD3 := Lib.hid (HD2.out.gr0 ga)
  have e0 := (ga.cell0 (o := 0) hlt).trans c0
  have e1 := (ga.cell0 (o := 1) hlt).trans c1
  have e2 := (ga.cell0 (o := 2) hlt).trans c2
  obtain ⟨Z, hZ⟩ : ∃ Z, Z = zeroT := ⟨_, rfl⟩
  have HZ := Lib.hid hZ
  rw [← hZ] at hcv
  clear hZ
  clear ga hlt c0 c1 c2 HG2 HD2
  generalize hrow : rowOf (fun _ => Value.int .u8 0) 64 = R at *
  clear hrow
  go_wp2_with fail
  generalize (w2.alloc (Obj.cells R 5)) = w3 at *
  refine (HT.out _).mono ?_
  rintro e w4 ⟨rfl, b4⟩
  have g4 := Gr.ofBelow (cs := []) b4
  have hlt : pb < w3.heap.size := World.block_lt_of_cell? w3 _ e0
  have f0 := (g4.cell0 (o := 0) hlt).trans e0
  have f1 := (g4.cell0 (o := 1) hlt).trans e1
  have HG4 := Lib.hid (HG3.out.trans g4)
  have HD4 := Lib.hid (HD3.out.gr0 g4)
  clear b4 g4 hlt e0 e1 e2 HG3 HD3 hmk hcv
  go_wp2_with fail
  go_loopw [5, 8] (fun e k wr => ∃ j : Nat, j ≤ L ∧ e = .int .i64 0 ∧ k = .int .i64 j ∧ RefIs wr r (fmtD p j D) ∧ wr.cell? ⟨pb, 0, none⟩ = some (.int .i64 p.a) ∧ wr.cell? ⟨pb, 1, none⟩ = some (.int .i64 p.l) ∧ Gr r.all w wr) (fun _ k _ => L - (intOf k).toNat)
  case atStart => exact ⟨0, by omega, rfl, rfl, HD4.out, f0, f1, HG4.out.of0⟩
  case round =>
    obtain ⟨j, hj, rfl, rfl, hd', c0', c1', g'⟩ := hrel
    have HH := Lib.hid (And.intro hd' (And.intro g' (And.intro c0' c1')))
    clear hd' g' f0 f1
    by_cases hjL : j < L
    · have ij : (j : Int) < t + p.l := by have := HL.out; omega
      have i2 : IntKind.i64.wrap (p.a + (j : Int)) = p.a + (j : Int) := IntWalk.i64_in _ (by have := HA.out; have := HF.out.2.2.2; omega)
      have HP := Lib.hid (rput4_any r (fmtD p j D) (p.a + (j : Int)) Z (c + 10 * j) wr HH.out.1 (.zero (fmt_zero HF.out.1 HF.out.2.2.2 j (by have := HF.out.2.2.1; omega)).1 (HF.out.2.1 j (by omega))) (by omega) (by rw [HZ.out, zeroT_size]; unfold maxLen; omega))
      rw [HZ.out, fmt_put HF.out.1 HF.out.2.2.2 j (by have := HF.out.2.2.1; omega), ← HZ.out] at HP
      go_wp2_with fail
      refine HP.out.mono ?_
      rintro e w5 ⟨rfl, hd5, g5⟩
      have hlt : pb < wr.heap.size := World.block_lt_of_cell? wr _ c0'
      have H5 := Lib.hid (And.intro hd5 (And.intro ((World.cell?_of_block (w := wr) (g5.block pb hlt HNP.out)).trans c0') (And.intro ((World.cell?_of_block (w := wr) (g5.block pb hlt HNP.out)).trans c1') (HH.out.2.1.trans g5))))
      clear hd5 g5 hlt
      go_wp2_with fail
      go_roundw
      case rel => exact ⟨j + 1, by omega, rfl, by go_num, by have := H5.out.1; rw [HZ.out] at this; exact this, H5.out.2.1, H5.out.2.2.1, H5.out.2.2.2⟩
      case measure => simp [intOf]; omega
    · obtain rfl : j = L := by omega
      have ij : ¬ ((j : Int) < t + p.l) := by have := HL.out; omega
      go_wp2_with fail
      go_ret
      exact ⟨rfl, HH.out.1, HH.out.2.1⟩
end
end Go.Proofs.Ytgifjnniohcacaa
