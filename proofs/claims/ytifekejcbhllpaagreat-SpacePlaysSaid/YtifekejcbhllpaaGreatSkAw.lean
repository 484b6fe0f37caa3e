/-
  SkAw: FlE, FlF, FlG.
-/
import Derived.Test.YtifekejcbhllpaaGreatSkAr
import Derived.Test.YtifekejcbhllpaaGreatSkAv

set_option linter.unusedVariables false

/-
  Layer 9: a config: Bank and Check of any plan, region, Size, Check.
-/
namespace Go.Proofs.YtifekejcbhllpaaGreat
open Go.RowKit
set_option linter.unusedVariables false

structure CfgZ where
  r : Int
  l : Int
  s : Int
  psi : Int
  key : Nat
def cfgV (C : CfgZ) : Value := .agg #[.int .i64 C.r, .int .i64 C.l, .int .i64 C.s, .int .i64 C.psi, .int .u64 (C.key : Int)]
def cfgRow (C : CfgZ) : Array Value := #[.int .i64 C.r, .int .i64 C.l, .int .i64 C.s, .int .i64 C.psi, .int .u64 (C.key : Int)]
/-- May a region be. -/
def okP (C : CfgZ) : Prop := 1 ≤ C.l ∧ C.l ≤ 1024 ∧ 0 ≤ C.s ∧ C.s ≤ 64 ∧ 1 ≤ C.psi ∧ C.psi ≤ 65535
instance (C : CfgZ) : Decidable (okP C) := by unfold okP; infer_instance
def wfC (C : CfgZ) : Prop := (-9223372036854775808 ≤ C.l ∧ C.l ≤ 9223372036854775807) ∧ (-9223372036854775808 ≤ C.r ∧ C.r ≤ 9223372036854775807)
def regS (C : CfgZ) : Int := sizeZ ⟨1, IntKind.i64.wrap (C.l + 2), C.s⟩
theorem regS_b (C : CfgZ) : 0 ≤ regS C ∧ regS C ≤ 1098 := by
  unfold regS sizeZ
  split
  · rename_i h
    obtain ⟨h1, h2, h3, h4, h5, h6⟩ := (okZ_iff _).1 h
    unfold tabZ
    simp only at *
    omega
  · omega
theorem regS_ok {C : CfgZ} (h : okP C) : regS C = sizeZ ⟨1, C.l + 2, C.s⟩ ∧ regS C = (C.s + 7) / 8 + (C.l + 2) + C.s := by
  obtain ⟨h1, h2, h3, h4, h5, h6⟩ := h
  have hw : IntKind.i64.wrap (C.l + 2) = C.l + 2 := IntWalk.i64_in _ (by omega)
  have ok : okZ ⟨1, C.l + 2, C.s⟩ = true := (okZ_iff _).2 ⟨by show (0 : Int) ≤ 1; omega, by show (1 : Int) ≤ 8192; omega, by show 1 ≤ C.l + 2; omega, by show C.l + 2 ≤ 1026; omega, h3, h4⟩
  unfold regS
  rw [hw]
  refine ⟨rfl, ?_⟩
  unfold sizeZ
  rw [if_pos ok]
  rfl
def sizeC (C : CfgZ) : Int := if 1 ≤ C.r ∧ C.r ≤ 16 ∧ okP C then 1 + C.r * regS C else 0
def checkC (C : CfgZ) (n : Int) : Int := if sizeC C = 0 then 2 else if n < sizeC C then 3 else 0
theorem sizeC_b (C : CfgZ) : 0 ≤ sizeC C ∧ sizeC C ≤ 17569 := by
  have hb := regS_b C
  unfold sizeC
  split
  · rename_i h
    obtain ⟨h1, h2, -⟩ := h
    have a1 : 0 ≤ C.r * regS C := Int.mul_nonneg (by omega) hb.1
    have a2 : C.r * regS C ≤ 16 * 1098 := Int.mul_le_mul h2 hb.2 hb.1 (by omega)
    omega
  · omega
theorem bank_gen (a l s psi : Int) (hl : -9223372036854775808 ≤ l ∧ l ≤ 9223372036854775807) (w : World) : Calls Tryz.prog 51 #[.agg #[.int .i64 a, .int .i64 l, .int .i64 s, .int .i64 psi]] w fun e w' => e = .returned (planV ⟨a, IntKind.i64.wrap (l + 2), s⟩) ∧ Gr [] w w' := by
  have HG := Lib.hid (((Gr.refl [] w).alloc (Obj.cells #[.int .i64 a, .int .i64 l, .int .i64 s, .int .i64 psi] 114)).alloc (Obj.cells #[.int .i64 0, .int .i64 0, .int .i64 0] 117))
  obtain ⟨x, hx⟩ : ∃ x : Int, IntKind.i64.wrap (l + 2) = x := ⟨_, rfl⟩
  unfold planV
  rw [hx]
  clear hl
  go_enter Tryz.func51, Tryz.ntmps51
  go_wp2_with fail
  exact bodyPost_ret (v := .agg #[.int .i64 a, .int .i64 x, .int .i64 s]) (by simp [results, Tryz.results51, go_sem]) rfl ⟨rfl, ((Gr.refl [] w).alloc _).alloc _⟩
def rcheckG (a l s psi n : Int) : Int := if 1 ≤ l ∧ l ≤ 1024 ∧ 1 ≤ psi ∧ psi ≤ 65535 then checkZ ⟨a, l + 2, s⟩ n else 2
set_option maxRecDepth 100000 in
set_option maxHeartbeats 8000000 in
theorem rcheck_gen (a l s psi n : Int) (w : World) : Calls Tryz.prog 50 #[.agg #[.int .i64 a, .int .i64 l, .int .i64 s, .int .i64 psi], .int .i64 n] w fun e w' => e = .returned (.int .i64 (rcheckG a l s psi n)) ∧ Gr [] w w' := by
  have hh := Holds.new w #[.int .i64 a, .int .i64 l, .int .i64 s, .int .i64 psi] 114
  obtain ⟨c0, c1, c2, c3⟩ := (show (w.alloc (Obj.cells #[.int .i64 a, .int .i64 l, .int .i64 s, .int .i64 psi] 114)).cell? ⟨w.heap.size, 0, none⟩ = some (.int .i64 a) ∧ (w.alloc (Obj.cells #[.int .i64 a, .int .i64 l, .int .i64 s, .int .i64 psi] 114)).cell? ⟨w.heap.size, 1, none⟩ = some (.int .i64 l) ∧ (w.alloc (Obj.cells #[.int .i64 a, .int .i64 l, .int .i64 s, .int .i64 psi] 114)).cell? ⟨w.heap.size, 2, none⟩ = some (.int .i64 s) ∧ (w.alloc (Obj.cells #[.int .i64 a, .int .i64 l, .int .i64 s, .int .i64 psi] 114)).cell? ⟨w.heap.size, 3, none⟩ = some (.int .i64 psi) from ⟨hh.cell 0, hh.cell 1, hh.cell 2, hh.cell 3⟩)
  have HG := Lib.hid ((Gr.refl [] w).alloc (Obj.cells #[.int .i64 a, .int .i64 l, .int .i64 s, .int .i64 psi] 114))
  obtain ⟨w1, hw1⟩ : ∃ w1, w1 = w.alloc (Obj.cells #[.int .i64 a, .int .i64 l, .int .i64 s, .int .i64 psi] 114) := ⟨_, rfl⟩
  obtain ⟨pb, hpb⟩ : ∃ pb, pb = w.heap.size := ⟨_, rfl⟩
  rw [← hpb, ← hw1] at c0 c1 c2 c3
  rw [← hw1] at HG
  clear hh
  obtain ⟨r, hr⟩ : ∃ r, r = rcheckG a l s psi n := ⟨_, rfl⟩
  have HR := Lib.hid hr
  rw [← hr]
  clear hr
  by_cases i1 : l < 1
  · have hr : r = 2 := by rw [HR.out]; unfold rcheckG; rw [if_neg (by omega)]
    subst hr
    go_enter Tryz.func50, Tryz.ntmps50
    go_upto_region 1 with fail
    rw [← hw1, ← hpb]
    clear hw1 hpb
    go_wp2_with fail
    go_ret
    exact ⟨rfl, HG.out⟩
  · by_cases i2 : 1024 < l
    · have hr : r = 2 := by rw [HR.out]; unfold rcheckG; rw [if_neg (by omega)]
      subst hr
      go_enter Tryz.func50, Tryz.ntmps50
      go_upto_region 1 with fail
      rw [← hw1, ← hpb]
      clear hw1 hpb
      go_wp2_with fail
      go_ret
      exact ⟨rfl, HG.out⟩
    · by_cases i3 : psi < 1
      · have hr : r = 2 := by rw [HR.out]; unfold rcheckG; rw [if_neg (by omega)]
        subst hr
        go_enter Tryz.func50, Tryz.ntmps50
        go_upto_region 1 with fail
        rw [← hw1, ← hpb]
        clear hw1 hpb
        go_wp2_with fail
        go_ret
        exact ⟨rfl, HG.out⟩
      · by_cases i4 : 65535 < psi
        · have hr : r = 2 := by rw [HR.out]; unfold rcheckG; rw [if_neg (by omega)]
          subst hr
          go_enter Tryz.func50, Tryz.ntmps50
          go_upto_region 1 with fail
          rw [← hw1, ← hpb]
          clear hw1 hpb
          go_wp2_with fail
          go_ret
          exact ⟨rfl, HG.out⟩
        · have hr : r = checkZ ⟨a, l + 2, s⟩ n := by rw [HR.out]; unfold rcheckG; rw [if_pos (by omega)]
          have HB := Lib.hid (fun W => bank_gen a l s psi (by omega) W)
          rw [show IntKind.i64.wrap (l + 2) = l + 2 from IntWalk.i64_in _ (by omega)] at HB
          have HC := Lib.hid (fun W => check_any ⟨a, l + 2, s⟩ n W)
          rw [← hr] at HC
          obtain ⟨bv, hbv⟩ : ∃ bv, bv = planV ⟨a, l + 2, s⟩ := ⟨_, rfl⟩
          rw [← hbv] at HB HC
          clear hr hbv
          go_enter Tryz.func50, Tryz.ntmps50
          go_upto_region 1 with fail
          rw [← hw1, ← hpb]
          clear hw1 hpb
          go_wp2_with fail
          refine (HB.out _).mono ?_
          rintro e w2 ⟨rfl, g2⟩
          have HG2 := Lib.hid (HG.out.trans g2)
          clear g2
          go_wp2_with fail
          refine (HC.out _).mono ?_
          rintro e w3 ⟨rfl, b3⟩
          have HG3 := Lib.hid (HG2.out.nextB b3)
          clear b3
          go_wp2_with fail
          go_ret
          exact ⟨rfl, HG3.out⟩
end Go.Proofs.YtifekejcbhllpaaGreat

/-
  Layer 9: a config's region, Size, Check.
-/
namespace Go.Proofs.YtifekejcbhllpaaGreat
open Go.RowKit
set_option linter.unusedVariables false

def regV (C : CfgZ) (k : Int) : Value := .agg #[.int .i64 (1 + k * regS C), .int .i64 C.l, .int .i64 C.s, .int .i64 C.psi]
theorem mul_b (C : CfgZ) {k : Int} (h0 : 0 ≤ k) (h1 : k ≤ 16) : 0 ≤ k * regS C ∧ k * regS C ≤ 17568 := by
  have hb := regS_b C
  have a1 : 0 ≤ k * regS C := Int.mul_nonneg h0 hb.1
  have a2 : k * regS C ≤ 16 * 1098 := Int.mul_le_mul h1 hb.2 hb.1 (by omega)
  omega
set_option maxRecDepth 100000 in
set_option maxHeartbeats 8000000 in
theorem region_any (C : CfgZ) (hC : wfC C) (k : Int) (h0 : 0 ≤ k) (h1 : k ≤ 16) (w : World) : Calls Tryz.prog 49 #[cfgV C, .int .i64 k] w fun e w' => e = .returned (regV C k) ∧ Gr [] w w' := by
  obtain ⟨b0, b1⟩ := mul_b C h0 h1
  have hb := regS_b C
  have HBk := Lib.hid (fun W => bank_gen 1 C.l C.s C.psi hC.1 W)
  have HSz := Lib.hid (fun W => size_any ⟨1, IntKind.i64.wrap (C.l + 2), C.s⟩ W)
  obtain ⟨bv, hbv⟩ : ∃ bv, bv = planV ⟨1, IntKind.i64.wrap (C.l + 2), C.s⟩ := ⟨_, rfl⟩
  rw [← hbv] at HBk HSz
  obtain ⟨z, hz⟩ : ∃ z, z = regS C := ⟨_, rfl⟩
  rw [show sizeZ ⟨1, IntKind.i64.wrap (C.l + 2), C.s⟩ = z from hz.symm] at HSz
  rw [← hz] at b0 b1 hb
  obtain ⟨kz, hkz⟩ : ∃ kz, kz = k * z := ⟨_, rfl⟩
  rw [← hkz] at b0 b1
  have i1 : IntKind.i64.wrap (k * z) = kz := by rw [← hkz]; exact IntWalk.i64_in _ (by omega)
  have i2 : IntKind.i64.wrap (1 + kz) = 1 + kz := IntWalk.i64_in _ (by omega)
  have HV := Lib.hid (show regV C k = .agg #[.int .i64 (1 + kz), .int .i64 C.l, .int .i64 C.s, .int .i64 C.psi] by unfold regV; rw [← hz, ← hkz])
  have h1 := (((Gr.refl [] w).alloc (Obj.cells (cfgRow C) 64)).alloc (Obj.cells #[.int .i64 0, .int .i64 0, .int .i64 0, .int .i64 0] 114))
  have hn := Holds.new ((w.alloc (Obj.cells (cfgRow C) 64)).alloc (Obj.cells #[.int .i64 0, .int .i64 0, .int .i64 0, .int .i64 0] 114)) #[.int .i64 1, .int .i64 C.l, .int .i64 C.s, .int .i64 C.psi] 114
  have hq := (Holds.new (w.alloc (Obj.cells (cfgRow C) 64)) #[.int .i64 0, .int .i64 0, .int .i64 0, .int .i64 0] 114).alloc (Obj.cells #[.int .i64 1, .int .i64 C.l, .int .i64 C.s, .int .i64 C.psi] 114)
  simp only [World.size_alloc] at hn hq
  have H := Lib.hid (And.intro hn (And.intro hq (h1.alloc (Obj.cells #[.int .i64 1, .int .i64 C.l, .int .i64 C.s, .int .i64 C.psi] 114))))
  rw [HV.out]
  unfold cfgV
  unfold cfgRow at H
  clear hC hbv hz hkz hb h1 hn hq HV
  go_enter Tryz.func49, Tryz.ntmps49
  go_upto_region 2 with fail
  generalize ((w.alloc (Obj.cells #[.int .i64 C.r, .int .i64 C.l, .int .i64 C.s, .int .i64 C.psi, .int .u64 (C.key : Int)] 64)).alloc (Obj.cells #[.int .i64 0, .int .i64 0, .int .i64 0, .int .i64 0] 114)).alloc (Obj.cells #[.int .i64 1, .int .i64 C.l, .int .i64 C.s, .int .i64 C.psi] 114) = w1 at *
  have k0 := kp_cell (H.out.1.cell 0)
  have k1 := kp_cell (H.out.1.cell 1)
  have k2 := kp_cell (H.out.1.cell 2)
  have k3 := kp_cell (H.out.1.cell 3)
  have hne := kp_ne w1
  refine wp_region_kp_tail 9 (by kernel_rfl) (by kernel_rfl) ?_
  simp only [List.take_succ_cons, List.take_zero, List.drop_succ_cons, List.drop_zero]
  repeat (go_big_quiet_step ((rename_i x; first
    | with_reducible exact kp_call x ((HBk.out _).mono fun _ _ q => ⟨q.1, q.2.below0⟩)
    | with_reducible exact kp_call x (HSz.out _))))
  with_reducible refine wpQuiet_nil ?_
  rintro _ ⟨y, rfl⟩
  have gy : Gr [] w1 y.w := Gr.ofBelow (cs := []) y.h
  have H2 := Lib.hid (And.intro (H.out.1.gr0 gy) (And.intro (H.out.2.1.gr0 gy) (H.out.2.2.trans gy)))
  clear k0 k1 k2 k3 hne gy H HBk HSz
  generalize y.w = w2 at *
  clear y
  obtain ⟨pb, hpb⟩ : ∃ pb, w.heap.size + 1 + 1 = pb := ⟨_, rfl⟩
  obtain ⟨rb, hrb⟩ : ∃ rb, w.heap.size + 1 = rb := ⟨_, rfl⟩
  have HN := Lib.hid (show rb ≠ pb ∧ w.heap.size ≤ rb ∧ w.heap.size ≤ pb by omega)
  rw [hpb, hrb] at H2
  rw [hpb, hrb]
  clear hpb hrb
  have c0 : w2.cell? ⟨pb, 0, none⟩ = some (.int .i64 1) := H2.out.1.cell 0
  have f0 := H2.out.1.frozen 0
  go_upto_region 3 with fail
  have H3 := Lib.hid (And.intro (H2.out.1.set 0 (.int .i64 (1 + kz))) (And.intro (H2.out.2.1.far (a := ⟨pb, 0, none⟩) HN.out.1 (.int .i64 (1 + kz))) (H2.out.2.2.setCell (p := ⟨pb, 0, none⟩) (.inr HN.out.2.2) (.int .i64 (1 + kz)))))
  clear c0 f0
  generalize w2.setCell ⟨pb, 0, none⟩ (.int .i64 (1 + kz)) = w3 at *
  have c0 : w3.cell? ⟨pb, 0, none⟩ = some (.int .i64 (1 + kz)) := H3.out.1.cell 0
  have c1 : w3.cell? ⟨pb, 1, none⟩ = some (.int .i64 C.l) := H3.out.1.cell 1
  have c2 : w3.cell? ⟨pb, 2, none⟩ = some (.int .i64 C.s) := H3.out.1.cell 2
  have c3 : w3.cell? ⟨pb, 3, none⟩ = some (.int .i64 C.psi) := H3.out.1.cell 3
  have r0 : w3.cell? ⟨rb, 0, none⟩ = some (.int .i64 0) := H3.out.2.1.cell 0
  have r1 : w3.cell? ⟨rb, 1, none⟩ = some (.int .i64 0) := H3.out.2.1.cell 1
  have r2 : w3.cell? ⟨rb, 2, none⟩ = some (.int .i64 0) := H3.out.2.1.cell 2
  have r3 : w3.cell? ⟨rb, 3, none⟩ = some (.int .i64 0) := H3.out.2.1.cell 3
  have f0 := H3.out.2.1.frozen 0
  have f1 := H3.out.2.1.frozen 1
  have f2 := H3.out.2.1.frozen 2
  have f3 := H3.out.2.1.frozen 3
  have hq : w.heap.size ≤ rb := HN.out.2.1
  have HG := Lib.hid ((((H3.out.2.2.setCell (p := ⟨rb, 0, none⟩) (.inr hq) (.int .i64 (1 + kz))).setCell (p := ⟨rb, 1, none⟩) (.inr hq) (.int .i64 C.l)).setCell (p := ⟨rb, 2, none⟩) (.inr hq) (.int .i64 C.s)).setCell (p := ⟨rb, 3, none⟩) (.inr hq) (.int .i64 C.psi))
  clear hq
  go_wp2_with fail
  exact bodyPost_ret (v := .agg #[.int .i64 (1 + kz), .int .i64 C.l, .int .i64 C.s, .int .i64 C.psi]) (by simp [results, Tryz.results49, go_sem, *]) rfl ⟨rfl, HG.out⟩
end Go.Proofs.YtifekejcbhllpaaGreat

/-
  Layer 9: a config's Size, Check.
-/
namespace Go.Proofs.YtifekejcbhllpaaGreat
open Go.RowKit
set_option linter.unusedVariables false

theorem rcheck_yes {C : CfgZ} (h : okP C) : rcheckG 1 C.l C.s C.psi 8192 = 0 := by
  obtain ⟨q1, q2⟩ := regS_ok h
  obtain ⟨h1, h2, h3, h4, h5, h6⟩ := h
  have ok : okZ ⟨1, C.l + 2, C.s⟩ = true := (okZ_iff _).2 ⟨by show (0 : Int) ≤ 1; omega, by show (1 : Int) ≤ 8192; omega, by show 1 ≤ C.l + 2; omega, by show C.l + 2 ≤ 1026; omega, h3, h4⟩
  unfold rcheckG
  rw [if_pos (by omega)]
  unfold checkZ
  rw [if_pos ok, if_neg]
  show ¬ (8192 : Int) < 1 + sizeZ ⟨1, C.l + 2, C.s⟩
  omega
theorem rcheck_no {C : CfgZ} (h : ¬ okP C) : rcheckG 1 C.l C.s C.psi 8192 = 2 := by
  unfold rcheckG
  split
  · rename_i q
    unfold checkZ
    rw [if_neg]
    intro k
    obtain ⟨h1, h2, h3, h4, h5, h6⟩ := (okZ_iff _).1 k
    exact h ⟨q.1, q.2.1, h5, h6, q.2.2.1, q.2.2.2⟩
  · rfl
set_option maxRecDepth 100000 in
set_option maxHeartbeats 8000000 in
theorem csize_any (C : CfgZ) (hC : wfC C) (w : World) : Calls Tryz.prog 27 #[cfgV C] w fun e w' => e = .returned (.int .i64 (sizeC C)) ∧ Gr [] w w' := by
  have HG := Lib.hid ((Gr.refl [] w).alloc (Obj.cells (cfgRow C) 64))
  have HC := Lib.hid (Holds.new w (cfgRow C) 64)
  obtain ⟨w1, hw1⟩ : ∃ w1, w1 = w.alloc (Obj.cells #[.int .i64 C.r, .int .i64 C.l, .int .i64 C.s, .int .i64 C.psi, .int .u64 (C.key : Int)] 64) := ⟨_, rfl⟩
  have hw1' : w.alloc (Obj.cells (cfgRow C) 64) = w1 := hw1.symm
  rw [hw1'] at HG HC
  unfold cfgRow at HC
  have c0 : w1.cell? ⟨w.heap.size, 0, none⟩ = some (.int .i64 C.r) := HC.out.cell 0
  have HR := Lib.hid (fun W => region_any C hC 0 (by omega) (by omega) W)
  have hV : regV C 0 = .agg #[.int .i64 1, .int .i64 C.l, .int .i64 C.s, .int .i64 C.psi] := by unfold regV; rw [Int.zero_mul]; rfl
  rw [hV] at HR
  have HK := Lib.hid (fun W => rcheck_gen 1 C.l C.s C.psi 8192 W)
  have HBk := Lib.hid (fun W => bank_gen 1 C.l C.s C.psi hC.1 W)
  have HSz := Lib.hid (fun W => size_any ⟨1, IntKind.i64.wrap (C.l + 2), C.s⟩ W)
  obtain ⟨bv, hbv⟩ : ∃ bv, bv = planV ⟨1, IntKind.i64.wrap (C.l + 2), C.s⟩ := ⟨_, rfl⟩
  rw [← hbv] at HBk HSz
  obtain ⟨z, hz⟩ : ∃ z, z = regS C := ⟨_, rfl⟩
  rw [show sizeZ ⟨1, IntKind.i64.wrap (C.l + 2), C.s⟩ = z from hz.symm] at HSz
  have hsz : sizeC C = if 1 ≤ C.r ∧ C.r ≤ 16 ∧ okP C then 1 + C.r * z else 0 := by rw [hz]; rfl
  by_cases i1 : C.r < 1
  · rw [hsz, if_neg (by omega)]
    clear hw1' hV hbv hz hsz HR HK HBk HSz hC
    unfold cfgV
    go_enter Tryz.func27, Tryz.ntmps27
    go_upto_region 1 with fail
    rw [← hw1]
    clear hw1
    go_wp2_with fail
    go_ret
    exact ⟨rfl, HG.out⟩
  · by_cases i2 : 16 < C.r
    · rw [hsz, if_neg (by omega)]
      clear hw1' hV hbv hz hsz HR HK HBk HSz hC
      unfold cfgV
      go_enter Tryz.func27, Tryz.ntmps27
      go_upto_region 1 with fail
      rw [← hw1]
      clear hw1
      go_wp2_with fail
      go_ret
      exact ⟨rfl, HG.out⟩
    · have hb := mul_b C (k := C.r) (by omega) (by omega)
      rw [← hz] at hb
      have c1 : w1.cell? ⟨w.heap.size, 1, none⟩ = some (.int .i64 C.l) := HC.out.cell 1
      have c2 : w1.cell? ⟨w.heap.size, 2, none⟩ = some (.int .i64 C.s) := HC.out.cell 2
      have c3 : w1.cell? ⟨w.heap.size, 3, none⟩ = some (.int .i64 C.psi) := HC.out.cell 3
      have c4 : w1.cell? ⟨w.heap.size, 4, none⟩ = some (.int .u64 (C.key : Int)) := HC.out.cell 4
      have HR2 := Lib.hid (fun W => show Calls Tryz.prog 49 #[.agg #[.int .i64 C.r, .int .i64 C.l, .int .i64 C.s, .int .i64 C.psi, .int .u64 (C.key : Int)], .int .i64 0] W _ from HR.out W)
      by_cases i3 : okP C
      · rw [hsz, if_pos ⟨by omega, by omega, i3⟩]
        rw [rcheck_yes i3] at HK
        obtain ⟨rz, hrz⟩ : ∃ rz, rz = C.r * z := ⟨_, rfl⟩
        rw [← hrz] at hb ⊢
        have j1 : IntKind.i64.wrap (C.r * z) = rz := by rw [← hrz]; exact IntWalk.i64_in _ (by omega)
        have j2 : IntKind.i64.wrap (1 + rz) = 1 + rz := IntWalk.i64_in _ (by omega)
        clear hw1' hV hbv hz hsz HR hC i3 hrz hb
        unfold cfgV
        go_enter Tryz.func27, Tryz.ntmps27
        go_upto_region 1 with fail
        rw [← hw1]
        clear hw1
        go_upto_region 3 with fail
        go_wp2_with fail
        with_reducible refine (HR2.out _).mono ?_
        rintro e w2 ⟨rfl, g2⟩
        have H2 := Lib.hid (And.intro (HC.out.gr0 g2) (HG.out.trans g2))
        clear g2 c0 c1 c2 c3 c4
        go_upto_region 4 with fail
        have hn := Holds.new w2 #[.int .i64 1, .int .i64 C.l, .int .i64 C.s, .int .i64 C.psi] 114
        have ga := (Gr.refl [] w2).alloc (Obj.cells #[.int .i64 1, .int .i64 C.l, .int .i64 C.s, .int .i64 C.psi] 114)
        have H3 := Lib.hid (And.intro hn (And.intro (H2.out.1.gr0 ga) (H2.out.2.trans ga)))
        clear hn ga H2
        generalize w2.alloc (Obj.cells #[.int .i64 1, .int .i64 C.l, .int .i64 C.s, .int .i64 C.psi] 114) = w3 at *
        obtain ⟨pb, hpb⟩ : ∃ pb, w2.heap.size = pb := ⟨_, rfl⟩
        rw [hpb] at H3 ⊢
        clear hpb
        have p0 : w3.cell? ⟨pb, 0, none⟩ = some (.int .i64 1) := H3.out.1.cell 0
        have p1 : w3.cell? ⟨pb, 1, none⟩ = some (.int .i64 C.l) := H3.out.1.cell 1
        have p2 : w3.cell? ⟨pb, 2, none⟩ = some (.int .i64 C.s) := H3.out.1.cell 2
        have p3 : w3.cell? ⟨pb, 3, none⟩ = some (.int .i64 C.psi) := H3.out.1.cell 3
        go_wp2_with fail
        with_reducible refine (HK.out _).mono ?_
        rintro e w4 ⟨rfl, g4⟩
        have H4 := Lib.hid (And.intro (H3.out.1.gr0 g4) (And.intro (H3.out.2.1.gr0 g4) (H3.out.2.2.trans g4)))
        clear g4 H3 p0 p1 p2 p3
        have k0 := kp_cell (H4.out.2.1.cell 0)
        have k1 := kp_cell (H4.out.1.cell 0)
        have k2 := kp_cell (H4.out.1.cell 1)
        have k3 := kp_cell (H4.out.1.cell 2)
        have k4 := kp_cell (H4.out.1.cell 3)
        have hne := kp_ne w4
        go_wp2_with fail
        refine wp_region_kp (by kernel_rfl) (by kernel_rfl) ?_
        repeat (go_big_quiet_step ((rename_i x; first
          | with_reducible exact kp_call x ((HBk.out _).mono fun _ _ q => ⟨q.1, q.2.below0⟩)
          | with_reducible exact kp_call x (HSz.out _))))
        with_reducible refine wpQuiet_nil ?_
        rintro _ ⟨y, rfl⟩
        have HF := Lib.hid (H4.out.2.2.trans (Gr.ofBelow (cs := []) y.h))
        clear k0 k1 k2 k3 k4 hne H4
        generalize y.w = w5 at *
        clear y
        go_wp2_with fail
        go_ret
        exact ⟨rfl, HF.out⟩
      · rw [hsz, if_neg (fun q => i3 q.2.2)]
        rw [rcheck_no i3] at HK
        clear hw1' hV hbv hz hsz HR hC i3 hb HBk HSz
        unfold cfgV
        go_enter Tryz.func27, Tryz.ntmps27
        go_upto_region 1 with fail
        rw [← hw1]
        clear hw1
        go_upto_region 3 with fail
        go_wp2_with fail
        with_reducible refine (HR2.out _).mono ?_
        rintro e w2 ⟨rfl, g2⟩
        have H2 := Lib.hid (And.intro (HC.out.gr0 g2) (HG.out.trans g2))
        clear g2 c0 c1 c2 c3 c4
        go_upto_region 4 with fail
        have hn := Holds.new w2 #[.int .i64 1, .int .i64 C.l, .int .i64 C.s, .int .i64 C.psi] 114
        have ga := (Gr.refl [] w2).alloc (Obj.cells #[.int .i64 1, .int .i64 C.l, .int .i64 C.s, .int .i64 C.psi] 114)
        have H3 := Lib.hid (And.intro hn (And.intro (H2.out.1.gr0 ga) (H2.out.2.trans ga)))
        clear hn ga H2
        generalize w2.alloc (Obj.cells #[.int .i64 1, .int .i64 C.l, .int .i64 C.s, .int .i64 C.psi] 114) = w3 at *
        obtain ⟨pb, hpb⟩ : ∃ pb, w2.heap.size = pb := ⟨_, rfl⟩
        rw [hpb] at H3 ⊢
        clear hpb
        have p0 : w3.cell? ⟨pb, 0, none⟩ = some (.int .i64 1) := H3.out.1.cell 0
        have p1 : w3.cell? ⟨pb, 1, none⟩ = some (.int .i64 C.l) := H3.out.1.cell 1
        have p2 : w3.cell? ⟨pb, 2, none⟩ = some (.int .i64 C.s) := H3.out.1.cell 2
        have p3 : w3.cell? ⟨pb, 3, none⟩ = some (.int .i64 C.psi) := H3.out.1.cell 3
        go_wp2_with fail
        with_reducible refine (HK.out _).mono ?_
        rintro e w4 ⟨rfl, g4⟩
        have H4 := Lib.hid (And.intro (H3.out.1.gr0 g4) (And.intro (H3.out.2.1.gr0 g4) (H3.out.2.2.trans g4)))
        clear g4 H3 p0 p1 p2 p3
        go_wp2_with fail
        go_ret
        exact ⟨rfl, H4.out.2.2⟩
set_option maxRecDepth 100000 in
set_option maxHeartbeats 8000000 in
theorem ccheck_any (C : CfgZ) (hC : wfC C) (n : Int) (w : World) : Calls Tryz.prog 82 #[cfgV C, .int .i64 n] w fun e w' => e = .returned (.int .i64 (checkC C n)) ∧ Gr [] w w' := by
  have HG := Lib.hid ((Gr.refl [] w).alloc (Obj.cells (cfgRow C) 64))
  have HC := Lib.hid (Holds.new w (cfgRow C) 64)
  obtain ⟨w1, hw1⟩ : ∃ w1, w1 = w.alloc (Obj.cells #[.int .i64 C.r, .int .i64 C.l, .int .i64 C.s, .int .i64 C.psi, .int .u64 (C.key : Int)] 64) := ⟨_, rfl⟩
  have hw1' : w.alloc (Obj.cells (cfgRow C) 64) = w1 := hw1.symm
  rw [hw1'] at HG HC
  unfold cfgRow at HC
  have HS := Lib.hid (fun W => show Calls Tryz.prog 27 #[.agg #[.int .i64 C.r, .int .i64 C.l, .int .i64 C.s, .int .i64 C.psi, .int .u64 (C.key : Int)]] W _ from csize_any C hC W)
  have hb := sizeC_b C
  have hk : checkC C n = if sizeC C = 0 then 2 else if n < sizeC C then 3 else 0 := rfl
  obtain ⟨z, hz⟩ : ∃ z, z = sizeC C := ⟨_, rfl⟩
  rw [← hz] at HS hb hk
  have c0 : w1.cell? ⟨w.heap.size, 0, none⟩ = some (.int .i64 C.r) := HC.out.cell 0
  have c1 : w1.cell? ⟨w.heap.size, 1, none⟩ = some (.int .i64 C.l) := HC.out.cell 1
  have c2 : w1.cell? ⟨w.heap.size, 2, none⟩ = some (.int .i64 C.s) := HC.out.cell 2
  have c3 : w1.cell? ⟨w.heap.size, 3, none⟩ = some (.int .i64 C.psi) := HC.out.cell 3
  have c4 : w1.cell? ⟨w.heap.size, 4, none⟩ = some (.int .u64 (C.key : Int)) := HC.out.cell 4
  clear hw1' hz hC
  rw [hk]
  clear hk
  unfold cfgV
  by_cases i1 : z = 0
  · rw [if_pos i1]
    have i1' : (z == 0) = true := by simpa using i1
    clear hb i1
    go_enter Tryz.func82, Tryz.ntmps82
    go_upto_region 1 with fail
    rw [← hw1]
    clear hw1
    go_wp2_with fail
    with_reducible refine (HS.out _).mono ?_
    rintro e w2 ⟨rfl, g2⟩
    have HF := Lib.hid (HG.out.trans g2)
    clear g2 c0 c1 c2 c3 c4
    go_wp2_with fail
    go_ret
    exact ⟨rfl, HF.out⟩
  · rw [if_neg i1]
    have i1' : (z == 0) = false := by simpa using i1
    by_cases i2 : n < z
    · rw [if_pos i2]
      clear i1 hb
      go_enter Tryz.func82, Tryz.ntmps82
      go_upto_region 1 with fail
      rw [← hw1]
      clear hw1
      go_wp2_with fail
      with_reducible refine (HS.out _).mono ?_
      rintro e w2 ⟨rfl, g2⟩
      have HF := Lib.hid (HG.out.trans g2)
      clear g2 c0 c1 c2 c3 c4
      go_wp2_with fail
      go_ret
      exact ⟨rfl, HF.out⟩
    · rw [if_neg i2]
      clear i1 hb
      go_enter Tryz.func82, Tryz.ntmps82
      go_upto_region 1 with fail
      rw [← hw1]
      clear hw1
      go_wp2_with fail
      with_reducible refine (HS.out _).mono ?_
      rintro e w2 ⟨rfl, g2⟩
      have HF := Lib.hid (HG.out.trans g2)
      clear g2 c0 c1 c2 c3 c4
      go_wp2_with fail
      go_ret
      exact ⟨rfl, HF.out⟩
end Go.Proofs.YtifekejcbhllpaaGreat
