/-
  MgO: SpL, SpM.
-/
import Derived.Test.YtgifjnniohcacaaGreatMgW

/-
  Layer 5: the document's plans; the law's small.
-/
namespace Go.Proofs.YtgifjnniohcacaaGreat
open Go.RowKit

theorem rplan_cells (p : PlanZ) (w : World) : (w.alloc (Obj.cells #[.int .i64 p.a, .int .i64 p.l, .int .i64 p.s] 25)).cell? ⟨w.heap.size, 0, none⟩ = some (.int .i64 p.a) ∧ (w.alloc (Obj.cells #[.int .i64 p.a, .int .i64 p.l, .int .i64 p.s] 25)).cell? ⟨w.heap.size, 1, none⟩ = some (.int .i64 p.l) ∧ (w.alloc (Obj.cells #[.int .i64 p.a, .int .i64 p.l, .int .i64 p.s] 25)).cell? ⟨w.heap.size, 2, none⟩ = some (.int .i64 p.s) := (Holds.new w _ _).three
theorem below_rplan (p : PlanZ) (w : World) : Below w.heap.size w (w.alloc (Obj.cells #[.int .i64 p.a, .int .i64 p.l, .int .i64 p.s] 25)) := (Below.refl _ w).alloc (Nat.le_refl _) _
theorem rtable_any (p : PlanZ) (hp : okZ p = true) (w : World) : Calls Tryz.prog 51 #[planV p] w fun e w' => e = .returned (.int .i64 (tabZ p)) ∧ Below w.heap.size w w' := by
  obtain ⟨a, l, s⟩ := p
  obtain ⟨h1, h2, h3, h4, h5, h6⟩ := (okZ_iff _).1 hp
  simp only at h1 h2 h3 h4 h5 h6
  unfold planV tabZ
  simp only
  have HB := Lib.hid ((Below.refl w.heap.size w).alloc (Nat.le_refl _) (Obj.cells #[.int .i64 a, .int .i64 l, .int .i64 s] 25))
  clear hp
  go_enter Tryz.func51, Tryz.ntmps51
  go_wp2
  go_ret
  exact ⟨rfl, HB.out⟩
set_option maxHeartbeats 4000000 in
theorem rsize_any (p : PlanZ) (hp : okZ p = true) (w : World) : Calls Tryz.prog 25 #[planV p] w fun e w' => e = .returned (.int .i64 (sizeZ p)) ∧ Below w.heap.size w w' := by
  obtain ⟨c0, c1, c2⟩ := rplan_cells p w
  have HB := Lib.hid (below_rplan p w)
  obtain ⟨w1, hw1⟩ : ∃ w1, w1 = w.alloc (Obj.cells #[.int .i64 p.a, .int .i64 p.l, .int .i64 p.s] 25) := ⟨_, rfl⟩
  have hl : w.heap.size < w1.heap.size := by rw [hw1, World.size_alloc]; omega
  have hs : sizeZ p = tabZ p + p.l + p.s := by unfold sizeZ; rw [if_pos hp]
  obtain ⟨h1, h2, h3, h4, h5, h6⟩ := (okZ_iff p).1 hp
  have HT := Lib.hid (fun W => show Calls Tryz.prog 51 #[.agg #[.int .i64 p.a, .int .i64 p.l, .int .i64 p.s]] W _ from rtable_any p hp W)
  have ht : 0 ≤ tabZ p ∧ tabZ p ≤ 8 := by unfold tabZ; omega
  obtain ⟨t, htt⟩ : ∃ t, t = tabZ p := ⟨_, rfl⟩
  rw [← htt] at HT hs ht
  have HS := Lib.hid hs
  have i1 : IntKind.i64.wrap (t + p.l) = t + p.l := IntWalk.i64_in _ (by omega)
  have i2 : IntKind.i64.wrap (t + p.l + p.s) = t + p.l + p.s := IntWalk.i64_in _ (by omega)
  clear hp hs htt ht
  unfold planV
  go_enter Tryz.func25, Tryz.ntmps25
  go_wp2_with fail
  rw [← hw1] at c0 c1 c2 HB ⊢
  clear hw1
  refine (HT.out _).mono ?_
  rintro e w2 ⟨rfl, hb2⟩
  replace c0 := (hb2.cell (p := ⟨w.heap.size, 0, none⟩) hl).trans c0
  replace c1 := (hb2.cell (p := ⟨w.heap.size, 1, none⟩) hl).trans c1
  replace c2 := (hb2.cell (p := ⟨w.heap.size, 2, none⟩) hl).trans c2
  have HB2 := Lib.hid (Below_nx HB.out hb2)
  clear hb2
  go_wp2_with fail
  go_ret
  exact ⟨by rw [HS.out]; rfl, HB2.out⟩
set_option maxHeartbeats 8000000 in
theorem rcheck_any (p : PlanZ) (n : Int) (w : World) : Calls Tryz.prog 61 #[planV p, .int .i64 n] w fun e w' => e = .returned (.int .i64 (checkZ p n)) ∧ Below w.heap.size w w' := by
  obtain ⟨c0, c1, c2⟩ := rplan_cells p w
  have HB := Lib.hid (below_rplan p w)
  by_cases h : 0 ≤ p.a ∧ p.a ≤ 8192 ∧ 1 ≤ p.l ∧ p.l ≤ 1026 ∧ 0 ≤ p.s ∧ p.s ≤ 64
  · have hok := (okZ_iff p).2 h
    obtain ⟨w1, hw1⟩ : ∃ w1, w1 = w.alloc (Obj.cells #[.int .i64 p.a, .int .i64 p.l, .int .i64 p.s] 25) := ⟨_, rfl⟩
    have hl : w.heap.size < w1.heap.size := by rw [hw1, World.size_alloc]; omega
    obtain ⟨h1, h2, h3, h4, h5, h6⟩ := h
    have HT := Lib.hid (fun W => show Calls Tryz.prog 25 #[.agg #[.int .i64 p.a, .int .i64 p.l, .int .i64 p.s]] W _ from rsize_any p hok W)
    have ht : 0 ≤ sizeZ p ∧ sizeZ p ≤ 2000 := by unfold sizeZ tabZ; rw [if_pos hok]; omega
    have hc : checkZ p n = if n < p.a + sizeZ p then 3 else 0 := by unfold checkZ; rw [if_pos hok]
    obtain ⟨t, htt⟩ : ∃ t, t = sizeZ p := ⟨_, rfl⟩
    rw [← htt] at HT ht hc
    have HC := Lib.hid hc
    have i1 : IntKind.i64.wrap (p.a + t) = p.a + t := IntWalk.i64_in _ (by omega)
    clear htt hc hok ht
    unfold planV
    by_cases hlt : n < p.a + t
    · have HC2 := Lib.hid (show checkZ p n = 3 by rw [HC.out, if_pos hlt])
      go_enter Tryz.func61, Tryz.ntmps61
      go_wp2_with fail
      rw [← hw1] at c0 c1 c2 HB ⊢
      clear hw1
      refine (HT.out _).mono ?_
      rintro e w2 ⟨rfl, hb2⟩
      replace c0 := (hb2.cell (p := ⟨w.heap.size, 0, none⟩) hl).trans c0
      have HB2 := Lib.hid (Below_nx HB.out hb2)
      clear hb2
      go_wp2_with fail
      go_ret
      exact ⟨by rw [HC2.out]; rfl, HB2.out⟩
    · have HC2 := Lib.hid (show checkZ p n = 0 by rw [HC.out, if_neg hlt])
      go_enter Tryz.func61, Tryz.ntmps61
      go_wp2_with fail
      rw [← hw1] at c0 c1 c2 HB ⊢
      clear hw1
      refine (HT.out _).mono ?_
      rintro e w2 ⟨rfl, hb2⟩
      replace c0 := (hb2.cell (p := ⟨w.heap.size, 0, none⟩) hl).trans c0
      have HB2 := Lib.hid (Below_nx HB.out hb2)
      clear hb2
      go_wp2_with fail
      go_ret
      exact ⟨by rw [HC2.out]; rfl, HB2.out⟩
  · have HC := Lib.hid (show checkZ p n = 2 by unfold checkZ; rw [okZ_no p h]; rfl)
    rw [HC.out]
    unfold planV
    by_cases h1 : 0 ≤ p.a
    · by_cases h2 : p.a ≤ 8192
      · by_cases h3 : 1 ≤ p.l
        · by_cases h4 : p.l ≤ 1026
          · by_cases h5 : 0 ≤ p.s
            · have h6 : ¬ p.s ≤ 64 := fun q => h ⟨h1, h2, h3, h4, h5, q⟩
              clear h
              go_enter Tryz.func61, Tryz.ntmps61
              go_wp2
              go_ret
              exact ⟨rfl, HB.out⟩
            · clear h
              go_enter Tryz.func61, Tryz.ntmps61
              go_wp2
              go_ret
              exact ⟨rfl, HB.out⟩
          · clear h
            go_enter Tryz.func61, Tryz.ntmps61
            go_wp2
            go_ret
            exact ⟨rfl, HB.out⟩
        · clear h
          go_enter Tryz.func61, Tryz.ntmps61
          go_wp2
          go_ret
          exact ⟨rfl, HB.out⟩
      · clear h
        go_enter Tryz.func61, Tryz.ntmps61
        go_wp2
        go_ret
        exact ⟨rfl, HB.out⟩
    · clear h
      go_enter Tryz.func61, Tryz.ntmps61
      go_wp2
      go_ret
      exact ⟨rfl, HB.out⟩
end Go.Proofs.YtgifjnniohcacaaGreat

/-
  Layer 5: the law's small.
-/
namespace Go.Proofs.YtgifjnniohcacaaGreat
open Go.RowKit

def smallP (x0 x1 x2 : Int) : PlanZ := ⟨max 0 x0 % 3, 1 + max 0 x1 % 4, max 0 x2 % 11⟩
theorem small_ok (x0 x1 x2 : Int) : okZ (smallP x0 x1 x2) = true := by rw [okZ_iff]; unfold smallP; simp only; omega
theorem small_any (x0 x1 x2 : Int) (w : World) : Calls Tryz.prog 4 #[.agg #[.int .i64 x0, .int .i64 x1, .int .i64 x2]] w fun e w' => e = .returned (planV (smallP x0 x1 x2)) ∧ Below w.heap.size w w' := by
  have HX : ∃ m0 m1 m2 : Int, m0 = max 0 x0 ∧ m1 = max 0 x1 ∧ m2 = max 0 x2 := ⟨_, _, _, rfl, rfl, rfl⟩
  obtain ⟨m0, m1, m2, h0, h1, h2⟩ := HX
  unfold planV smallP
  simp only
  rw [← h0, ← h1, ← h2]
  have H := Lib.hid (And.intro h0 (And.intro h1 h2))
  clear h0 h1 h2
  go_enter Tryz.func4, Tryz.ntmps4
  go_wp2_with fail
  all_goals
    obtain ⟨h0, h1, h2⟩ := H.out
    have HB := ((Below.refl w.heap.size w).alloc (Nat.le_refl _) (Obj.cells #[.int .i64 x0, .int .i64 x1, .int .i64 x2] 22))
    first
    | have r0 : m0 = x0 := by omega
      clear h0
      revert r0
      rintro rfl
    | have r0 : m0 = 0 := by omega
      clear h0
      revert r0
      rintro rfl
    first
    | have r1 : m1 = x1 := by omega
      clear h1
      revert r1
      rintro rfl
    | have r1 : m1 = 0 := by omega
      clear h1
      revert r1
      rintro rfl
    first
    | have r2 : m2 = x2 := by omega
      clear h2
      revert r2
      rintro rfl
    | have r2 : m2 = 0 := by omega
      clear h2
      revert r2
      rintro rfl
    refine bodyPost_ret (v := .agg #[.int .i64 _, .int .i64 _, .int .i64 _]) (by simp [results, Tryz.results4, go_sem]; exact ⟨rfl, rfl, rfl⟩) rfl ⟨by rfl, HB.alloc (by rw [World.size_alloc]; omega) _⟩
end Go.Proofs.YtgifjnniohcacaaGreat
