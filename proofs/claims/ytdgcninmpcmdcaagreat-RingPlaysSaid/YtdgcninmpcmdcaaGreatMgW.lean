/-
  MgW: SpA, SpB.
-/
import Derived.Test.YtdgcninmpcmdcaaGreatRegT
import Derived.Test.YtdgcninmpcmdcaaGreatGr
import Derived.IntWalk

/-
  Layer 5: plans.
-/
namespace Go.Proofs.YtdgcninmpcmdcaaGreat
open Go.RowKit

structure PlanZ where
  a : Int
  l : Int
  s : Int
def okZ (p : PlanZ) : Bool := decide (0 ≤ p.a ∧ p.a ≤ 8192 ∧ 1 ≤ p.l ∧ p.l ≤ 1026 ∧ 0 ≤ p.s ∧ p.s ≤ 64)
def tabZ (p : PlanZ) : Int := (p.s + 7) / 8
def sizeZ (p : PlanZ) : Int := if okZ p then tabZ p + p.l + p.s else 0
def checkZ (p : PlanZ) (n : Int) : Int := if okZ p then (if n < p.a + sizeZ p then 3 else 0) else 2
def planV (p : PlanZ) : Value := .agg #[.int .i64 p.a, .int .i64 p.l, .int .i64 p.s]
theorem okZ_iff (p : PlanZ) : okZ p = true ↔ 0 ≤ p.a ∧ p.a ≤ 8192 ∧ 1 ≤ p.l ∧ p.l ≤ 1026 ∧ 0 ≤ p.s ∧ p.s ≤ 64 := by unfold okZ; rw [decide_eq_true_eq]
theorem okZ_no (p : PlanZ) (h : ¬ (0 ≤ p.a ∧ p.a ≤ 8192 ∧ 1 ≤ p.l ∧ p.l ≤ 1026 ∧ 0 ≤ p.s ∧ p.s ≤ 64)) : okZ p = false := by unfold okZ; exact decide_eq_false h
set_option maxHeartbeats 2000000 in
theorem right_any (p : PlanZ) (w : World) : Calls Tryz.prog 133 #[planV p] w fun e w' => e = .returned (.bool (okZ p)) ∧ Below w.heap.size w w' := by
  obtain ⟨a, l, s⟩ := p
  unfold planV
  simp only
  have HB := Lib.hid ((Below.refl w.heap.size w).alloc (Nat.le_refl _) (Obj.cells #[.int .i64 a, .int .i64 l, .int .i64 s] 116))
  by_cases h : 0 ≤ a ∧ a ≤ 8192 ∧ 1 ≤ l ∧ l ≤ 1026 ∧ 0 ≤ s ∧ s ≤ 64
  · rw [(okZ_iff ⟨a, l, s⟩).2 h]
    obtain ⟨h1, h2, h3, h4, h5, h6⟩ := h
    go_enter Tryz.func133, Tryz.ntmps133
    go_wp2
    go_ret
    exact ⟨rfl, HB.out⟩
  · rw [okZ_no ⟨a, l, s⟩ h]
    by_cases h1 : 0 ≤ a
    · by_cases h2 : a ≤ 8192
      · by_cases h3 : 1 ≤ l
        · by_cases h4 : l ≤ 1026
          · by_cases h5 : 0 ≤ s
            · have h6 : ¬ s ≤ 64 := fun q => h ⟨h1, h2, h3, h4, h5, q⟩
              clear h
              go_enter Tryz.func133, Tryz.ntmps133
              go_wp2
              go_ret
              exact ⟨rfl, HB.out⟩
            · clear h
              go_enter Tryz.func133, Tryz.ntmps133
              go_wp2
              go_ret
              exact ⟨rfl, HB.out⟩
          · clear h
            go_enter Tryz.func133, Tryz.ntmps133
            go_wp2
            go_ret
            exact ⟨rfl, HB.out⟩
        · clear h
          go_enter Tryz.func133, Tryz.ntmps133
          go_wp2
          go_ret
          exact ⟨rfl, HB.out⟩
      · clear h
        go_enter Tryz.func133, Tryz.ntmps133
        go_wp2
        go_ret
        exact ⟨rfl, HB.out⟩
    · clear h
      go_enter Tryz.func133, Tryz.ntmps133
      go_wp2
      go_ret
      exact ⟨rfl, HB.out⟩
theorem table_any (p : PlanZ) (hp : okZ p = true) (w : World) : Calls Tryz.prog 111 #[planV p] w fun e w' => e = .returned (.int .i64 (tabZ p)) ∧ Below w.heap.size w w' := by
  obtain ⟨a, l, s⟩ := p
  obtain ⟨h1, h2, h3, h4, h5, h6⟩ := (okZ_iff _).1 hp
  simp only at h1 h2 h3 h4 h5 h6
  unfold planV tabZ
  simp only
  have HB := Lib.hid ((Below.refl w.heap.size w).alloc (Nat.le_refl _) (Obj.cells #[.int .i64 a, .int .i64 l, .int .i64 s] 116))
  clear hp
  go_enter Tryz.func111, Tryz.ntmps111
  go_wp2
  go_ret
  exact ⟨by simp [show s + 8 - 1 = s + 7 by omega], HB.out⟩
end Go.Proofs.YtdgcninmpcmdcaaGreat

/-
  Layer 5: a plan's Size, Check, places.
-/
namespace Go.Proofs.YtdgcninmpcmdcaaGreat
open Go.RowKit

theorem plan_cells (p : PlanZ) (w : World) : (w.alloc (Obj.cells #[.int .i64 p.a, .int .i64 p.l, .int .i64 p.s] 116)).cell? ⟨w.heap.size, 0, none⟩ = some (.int .i64 p.a) ∧ (w.alloc (Obj.cells #[.int .i64 p.a, .int .i64 p.l, .int .i64 p.s] 116)).cell? ⟨w.heap.size, 1, none⟩ = some (.int .i64 p.l) ∧ (w.alloc (Obj.cells #[.int .i64 p.a, .int .i64 p.l, .int .i64 p.s] 116)).cell? ⟨w.heap.size, 2, none⟩ = some (.int .i64 p.s) := (Holds.new w _ _).three
theorem below_plan (p : PlanZ) (w : World) : Below w.heap.size w (w.alloc (Obj.cells #[.int .i64 p.a, .int .i64 p.l, .int .i64 p.s] 116)) := (Below.refl _ w).alloc (Nat.le_refl _) _
set_option maxHeartbeats 4000000 in
theorem size_any (p : PlanZ) (w : World) : Calls Tryz.prog 134 #[planV p] w fun e w' => e = .returned (.int .i64 (sizeZ p)) ∧ Below w.heap.size w w' := by
  obtain ⟨c0, c1, c2⟩ := plan_cells p w
  have HB := Lib.hid (below_plan p w)
  have HR := Lib.hid (fun W => show Calls Tryz.prog 133 #[.agg #[.int .i64 p.a, .int .i64 p.l, .int .i64 p.s]] W _ from right_any p W)
  obtain ⟨w1, hw1⟩ : ∃ w1, w1 = w.alloc (Obj.cells #[.int .i64 p.a, .int .i64 p.l, .int .i64 p.s] 116) := ⟨_, rfl⟩
  have hl : w.heap.size < w1.heap.size := by rw [hw1, World.size_alloc]; omega
  by_cases hp : okZ p = true
  · rw [hp] at HR
    have hs : sizeZ p = tabZ p + p.l + p.s := by unfold sizeZ; rw [if_pos hp]
    obtain ⟨h1, h2, h3, h4, h5, h6⟩ := (okZ_iff p).1 hp
    have HT := Lib.hid (fun W => show Calls Tryz.prog 111 #[.agg #[.int .i64 p.a, .int .i64 p.l, .int .i64 p.s]] W _ from table_any p hp W)
    have ht : 0 ≤ tabZ p ∧ tabZ p ≤ 8 := by unfold tabZ; omega
    obtain ⟨t, htt⟩ : ∃ t, t = tabZ p := ⟨_, rfl⟩
    rw [← htt] at HT hs ht
    obtain ⟨ht0, ht8⟩ := ht
    have HS := Lib.hid hs
    clear hp hs htt
    unfold planV
    go_enter Tryz.func134, Tryz.ntmps134
    go_wp2_with fail
    rw [← hw1] at c0 c1 c2 HB ⊢
    clear hw1
    refine (HR.out _).mono ?_
    rintro e w2 ⟨rfl, hb2⟩
    replace c0 := (hb2.cell (p := ⟨w.heap.size, 0, none⟩) hl).trans c0
    replace c1 := (hb2.cell (p := ⟨w.heap.size, 1, none⟩) hl).trans c1
    replace c2 := (hb2.cell (p := ⟨w.heap.size, 2, none⟩) hl).trans c2
    have HB2 := Lib.hid (Below_nx HB.out hb2)
    have k0 := kp_cell c0
    have k1 := kp_cell c1
    have k2 := kp_cell c2
    have hne := kp_ne w2
    clear hb2
    have i1 : IntKind.i64.wrap (t + p.l) = t + p.l := IntWalk.i64_in _ (by omega)
    have i2 : IntKind.i64.wrap (t + p.l + p.s) = t + p.l + p.s := IntWalk.i64_in _ (by omega)
    go_wp2_with fail
    refine wp_region_kp (by kernel_rfl) (by kernel_rfl) ?_
    repeat (go_big_quiet_step ((rename_i x; exact kp_call x (HT.out _))))
    with_reducible refine wpQuiet_nil ?_
    rintro _ ⟨y, rfl⟩
    have HBy := Lib.hid (Below_nx HB2.out y.h)
    clear k0 k1 k2 hne
    generalize y.w = w3 at *
    clear y
    go_wp2_with fail
    go_ret
    exact ⟨by rw [HS.out]; rfl, HBy.out⟩
  · have hp : okZ p = false := by simpa using hp
    rw [hp] at HR
    have hs : sizeZ p = 0 := by unfold sizeZ; rw [hp]; rfl
    rw [hs]
    clear hp hs
    unfold planV
    go_enter Tryz.func134, Tryz.ntmps134
    go_wp2_with fail
    refine (HR.out _).mono ?_
    rintro e w2 ⟨rfl, hb2⟩
    have HB2 := Lib.hid (Below_nx HB.out hb2)
    clear hb2
    go_wp2_with fail
    go_ret
    exact ⟨rfl, HB2.out⟩
set_option maxHeartbeats 4000000 in
theorem lineat_any (p : PlanZ) (hp : okZ p = true) (i : Int) (h0 : 0 ≤ i) (h9 : i ≤ 65536) (w : World) : Calls Tryz.prog 117 #[planV p, .int .i64 i] w fun e w' => e = .returned (.int .i64 (p.a + tabZ p + i)) ∧ Below w.heap.size w w' := by
  obtain ⟨c0, c1, c2⟩ := plan_cells p w
  have HB := Lib.hid (below_plan p w)
  obtain ⟨w1, hw1⟩ : ∃ w1, w1 = w.alloc (Obj.cells #[.int .i64 p.a, .int .i64 p.l, .int .i64 p.s] 116) := ⟨_, rfl⟩
  obtain ⟨h1, h2, h3, h4, h5, h6⟩ := (okZ_iff p).1 hp
  have HT := Lib.hid (fun W => show Calls Tryz.prog 111 #[.agg #[.int .i64 p.a, .int .i64 p.l, .int .i64 p.s]] W _ from table_any p hp W)
  have ht : 0 ≤ tabZ p ∧ tabZ p ≤ 8 := by unfold tabZ; omega
  obtain ⟨t, htt⟩ : ∃ t, t = tabZ p := ⟨_, rfl⟩
  rw [← htt] at HT ht ⊢
  obtain ⟨ht0, ht8⟩ := ht
  clear hp htt
  unfold planV
  go_enter Tryz.func117, Tryz.ntmps117
  go_wp2_with fail
  rw [← hw1] at c0 c1 c2 HB ⊢
  clear hw1
  have k0 := kp_cell c0
  have k1 := kp_cell c1
  have k2 := kp_cell c2
  have hne := kp_ne w1
  have i0 : IntKind.i64.wrap (p.a + t) = p.a + t := IntWalk.i64_in _ (by omega)
  have i1 : IntKind.i64.wrap (p.a + t + i) = p.a + t + i := IntWalk.i64_in _ (by omega)
  refine wp_region_kp (by kernel_rfl) (by kernel_rfl) ?_
  repeat (go_big_quiet_step ((rename_i x; exact kp_call x (HT.out _))))
  with_reducible refine wpQuiet_nil ?_
  rintro _ ⟨y, rfl⟩
  have HBy := Lib.hid (Below_nx HB.out y.h)
  clear k0 k1 k2 hne
  generalize y.w = w3 at *
  clear y
  go_wp2_with fail
  go_ret
  exact ⟨rfl, HBy.out⟩
set_option maxHeartbeats 4000000 in
theorem spareat_any (p : PlanZ) (hp : okZ p = true) (k : Int) (h0 : 0 ≤ k) (h9 : k ≤ 65536) (w : World) : Calls Tryz.prog 116 #[planV p, .int .i64 k] w fun e w' => e = .returned (.int .i64 (p.a + tabZ p + p.l + k)) ∧ Below w.heap.size w w' := by
  obtain ⟨c0, c1, c2⟩ := plan_cells p w
  have HB := Lib.hid (below_plan p w)
  obtain ⟨w1, hw1⟩ : ∃ w1, w1 = w.alloc (Obj.cells #[.int .i64 p.a, .int .i64 p.l, .int .i64 p.s] 116) := ⟨_, rfl⟩
  obtain ⟨h1, h2, h3, h4, h5, h6⟩ := (okZ_iff p).1 hp
  have HT := Lib.hid (fun W => show Calls Tryz.prog 111 #[.agg #[.int .i64 p.a, .int .i64 p.l, .int .i64 p.s]] W _ from table_any p hp W)
  have ht : 0 ≤ tabZ p ∧ tabZ p ≤ 8 := by unfold tabZ; omega
  obtain ⟨t, htt⟩ : ∃ t, t = tabZ p := ⟨_, rfl⟩
  rw [← htt] at HT ht ⊢
  obtain ⟨ht0, ht8⟩ := ht
  clear hp htt
  unfold planV
  go_enter Tryz.func116, Tryz.ntmps116
  go_wp2_with fail
  rw [← hw1] at c0 c1 c2 HB ⊢
  clear hw1
  have k0 := kp_cell c0
  have k1 := kp_cell c1
  have k2 := kp_cell c2
  have hne := kp_ne w1
  have i0 : IntKind.i64.wrap (p.a + t) = p.a + t := IntWalk.i64_in _ (by omega)
  have i1 : IntKind.i64.wrap (p.a + t + p.l) = p.a + t + p.l := IntWalk.i64_in _ (by omega)
  have i2 : IntKind.i64.wrap (p.a + t + p.l + k) = p.a + t + p.l + k := IntWalk.i64_in _ (by omega)
  refine wp_region_kp (by kernel_rfl) (by kernel_rfl) ?_
  repeat (go_big_quiet_step ((rename_i x; exact kp_call x (HT.out _))))
  with_reducible refine wpQuiet_nil ?_
  rintro _ ⟨y, rfl⟩
  have HBy := Lib.hid (Below_nx HB.out y.h)
  clear k0 k1 k2 hne
  generalize y.w = w3 at *
  clear y
  go_wp2_with fail
  go_ret
  exact ⟨rfl, HBy.out⟩
set_option maxHeartbeats 4000000 in
theorem check_any (p : PlanZ) (n : Int) (w : World) : Calls Tryz.prog 107 #[planV p, .int .i64 n] w fun e w' => e = .returned (.int .i64 (checkZ p n)) ∧ Below w.heap.size w w' := by
  obtain ⟨c0, c1, c2⟩ := plan_cells p w
  have HB := Lib.hid (below_plan p w)
  have HR := Lib.hid (fun W => show Calls Tryz.prog 133 #[.agg #[.int .i64 p.a, .int .i64 p.l, .int .i64 p.s]] W _ from right_any p W)
  obtain ⟨w1, hw1⟩ : ∃ w1, w1 = w.alloc (Obj.cells #[.int .i64 p.a, .int .i64 p.l, .int .i64 p.s] 116) := ⟨_, rfl⟩
  have hl : w.heap.size < w1.heap.size := by rw [hw1, World.size_alloc]; omega
  by_cases hp : okZ p = true
  · rw [hp] at HR
    obtain ⟨h1, h2, h3, h4, h5, h6⟩ := (okZ_iff p).1 hp
    have HT := Lib.hid (fun W => show Calls Tryz.prog 134 #[.agg #[.int .i64 p.a, .int .i64 p.l, .int .i64 p.s]] W _ from size_any p W)
    have ht : 0 ≤ sizeZ p ∧ sizeZ p ≤ 2000 := by unfold sizeZ tabZ; rw [if_pos hp]; omega
    have hc : checkZ p n = if n < p.a + sizeZ p then 3 else 0 := by unfold checkZ; rw [if_pos hp]
    obtain ⟨t, htt⟩ : ∃ t, t = sizeZ p := ⟨_, rfl⟩
    rw [← htt] at HT ht hc
    obtain ⟨ht0, ht8⟩ := ht
    have HC := Lib.hid hc
    clear hp htt hc
    have i1 : IntKind.i64.wrap (p.a + t) = p.a + t := IntWalk.i64_in _ (by omega)
    unfold planV
    by_cases hlt : n < p.a + t
    · have HC2 := Lib.hid (show checkZ p n = 3 by rw [HC.out, if_pos hlt])
      have d1 : decide (n < p.a + t) = true := decide_eq_true hlt
      clear hlt
      go_enter Tryz.func107, Tryz.ntmps107
      go_wp2_with fail
      rw [← hw1] at c0 c1 c2 HB ⊢
      clear hw1
      refine (HR.out _).mono ?_
      rintro e w2 ⟨rfl, hb2⟩
      replace c0 := (hb2.cell (p := ⟨w.heap.size, 0, none⟩) hl).trans c0
      replace c1 := (hb2.cell (p := ⟨w.heap.size, 1, none⟩) hl).trans c1
      replace c2 := (hb2.cell (p := ⟨w.heap.size, 2, none⟩) hl).trans c2
      have HB2 := Lib.hid (Below_nx HB.out hb2)
      have k0 := kp_cell c0
      have k1 := kp_cell c1
      have k2 := kp_cell c2
      have hne := kp_ne w2
      clear hb2
      go_wp2_with fail
      refine wp_region_kp (by kernel_rfl) (by kernel_rfl) ?_
      repeat (go_big_quiet_step ((rename_i x; exact kp_call x (HT.out _))))
      with_reducible refine wpQuiet_nil ?_
      rintro _ ⟨y, rfl⟩
      have HBy := Lib.hid (Below_nx HB2.out y.h)
      clear k0 k1 k2 hne
      generalize y.w = w3 at *
      clear y
      go_wp2_with fail
      go_ret
      exact ⟨by rw [HC2.out]; rfl, HBy.out⟩
    · have HC2 := Lib.hid (show checkZ p n = 0 by rw [HC.out, if_neg hlt])
      have d1 : decide (n < p.a + t) = false := decide_eq_false hlt
      clear hlt
      go_enter Tryz.func107, Tryz.ntmps107
      go_wp2_with fail
      rw [← hw1] at c0 c1 c2 HB ⊢
      clear hw1
      refine (HR.out _).mono ?_
      rintro e w2 ⟨rfl, hb2⟩
      replace c0 := (hb2.cell (p := ⟨w.heap.size, 0, none⟩) hl).trans c0
      replace c1 := (hb2.cell (p := ⟨w.heap.size, 1, none⟩) hl).trans c1
      replace c2 := (hb2.cell (p := ⟨w.heap.size, 2, none⟩) hl).trans c2
      have HB2 := Lib.hid (Below_nx HB.out hb2)
      have k0 := kp_cell c0
      have k1 := kp_cell c1
      have k2 := kp_cell c2
      have hne := kp_ne w2
      clear hb2
      go_wp2_with fail
      refine wp_region_kp (by kernel_rfl) (by kernel_rfl) ?_
      repeat (go_big_quiet_step ((rename_i x; exact kp_call x (HT.out _))))
      with_reducible refine wpQuiet_nil ?_
      rintro _ ⟨y, rfl⟩
      have HBy := Lib.hid (Below_nx HB2.out y.h)
      clear k0 k1 k2 hne
      generalize y.w = w3 at *
      clear y
      go_wp2_with fail
      go_ret
      exact ⟨by rw [HC2.out]; rfl, HBy.out⟩
  · have hp : okZ p = false := by simpa using hp
    rw [hp] at HR
    have hs : checkZ p n = 2 := by unfold checkZ; rw [hp]; rfl
    rw [hs]
    clear hp hs
    unfold planV
    go_enter Tryz.func107, Tryz.ntmps107
    go_wp2_with fail
    refine (HR.out _).mono ?_
    rintro e w2 ⟨rfl, hb2⟩
    have HB2 := Lib.hid (Below_nx HB.out hb2)
    clear hb2
    go_wp2_with fail
    go_ret
    exact ⟨rfl, HB2.out⟩
end Go.Proofs.YtdgcninmpcmdcaaGreat
