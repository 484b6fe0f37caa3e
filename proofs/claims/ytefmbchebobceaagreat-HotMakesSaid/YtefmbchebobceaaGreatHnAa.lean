/-
  HnAa: Base, PmB, LnG, FlH, SpL, FmA, FmB.
-/
import Derived.Test.YtefmbchebobceaaGreatHkAa
import Derived.Test.YtefmbchebobceaaGreatHkAb
import Derived.Test.YtefmbchebobceaaGreatHkAc
import Derived.Test.YtefmbchebobceaaGreatHkAd
import Derived.Test.YtefmbchebobceaaGreatHkAe
import Derived.Test.YtefmbchebobceaaGreatHkAf
import Derived.Test.YtefmbchebobceaaGreatHkAg
import Derived.Test.YtefmbchebobceaaGreatHkAh
import Derived.Test.YtefmbchebobceaaGreatHkAi
import Derived.Test.YtefmbchebobceaaGreatHkAj
import Derived.Test.YtefmbchebobceaaGreatHkAk
import Derived.Test.YtefmbchebobceaaGreatHkAl
import Derived.Test.YtefmbchebobceaaGreatHkAm
import Derived.Test.YtefmbchebobceaaGreatHkAn
import Derived.Test.YtefmbchebobceaaGreatHkAo
import Derived.Test.YtefmbchebobceaaGreatHkAp
import Derived.Test.YtefmbchebobceaaGreatHkAq
import Derived.Test.YtefmbchebobceaaGreatHkAr
import Derived.Test.YtefmbchebobceaaGreatHkAs
import Derived.Test.YtefmbchebobceaaGreatHkAt
import Derived.Test.YtefmbchebobceaaGreatHkAu
import Derived.Test.YtefmbchebobceaaGreatHkAv
import Derived.Test.YtefmbchebobceaaGreatHkAw
import Derived.Test.YtefmbchebobceaaGreatHkAx
import Derived.Test.YtefmbchebobceaaGreatHkAy
import Derived.Test.YtefmbchebobceaaGreatHkAz
import Derived.Test.YtefmbchebobceaaGreatHkBa
import Derived.Test.YtefmbchebobceaaGreatHkBb
import Derived.Test.YtefmbchebobceaaGreatHkBc
import Derived.Test.YtefmbchebobceaaGreatHkBd
import Derived.Test.YtefmbchebobceaaGreatHkBe
import Derived.Test.YtefmbchebobceaaGreatHkBf
import Derived.Test.YtefmbchebobceaaGreatHkBg
import Derived.Test.YtefmbchebobceaaGreatHkBh
import Derived.Test.YtefmbchebobceaaGreatHkBi
import Derived.Test.YtefmbchebobceaaGreatHkBj
import Derived.Test.YtefmbchebobceaaGreatHkBk
import Derived.Test.YtefmbchebobceaaGreatRows
import Derived.WalkKit
import Derived.Handy
import Derived.Lib.Hide
import Derived.Deep.QuietTactic
import Derived.BigQuiet
import Derived.KernelRfl
import Derived.Maps.RangeWalk
import Derived.Maps.OwnSet
import Derived.StillTailTactics
import Derived.Deep.LoopGhost
import Derived.Laws.AppendOwn
import Derived.Shelf.SlIterI.Nil
import Derived.Shelf.SortM.Plain
import Derived.Shelf.SortM.SortNone
import Derived.Ground.GgzProg
import Derived.Ground.SlgmProg
import Derived.Lib.AppendStr
import Derived.Shelf.Strings.Repeat
import Derived.Ground.NamesProg
import Derived.Lib.Agree
import Derived.Deep.MidRow
import Derived.IntWalk
import Derived.Deep.RegionHeld3
import Derived.Deep.CutBlock
import Derived.ProofKit
import Derived.OpenShut
import Derived.SizedLaws
import Derived.ChangeSlices
import Derived.Deep.Slices
import Derived.Deep.Grids
import Derived.Deep.RegionLaw
import Derived.Deep.AppendLies

set_option linter.unusedVariables false

/-
  What many texts share: worlds below a bound; max with 0; small arithmetic.
-/
namespace Go.Proofs.YtefmbchebobceaaGreat
open Go.RowKit

def mx (y : Int) : Int := max 0 y
theorem mx_nonneg (y : Int) : 0 ≤ mx y := by unfold mx; omega
theorem max0 (P : Program) (ts : Array TypeId) (t : TypeId) (y : Int) (w : World) : (Builtin.max_ ts t #[.int .i64 0, .int .i64 y]).run P w = .ok (.int .i64 (mx y)) w := by
  rw [run_max_int2]
  have : (if y > 0 then y else 0) = mx y := by unfold mx; split <;> omega
  rw [this]
theorem natU64 {a : Int} (h : (Lit.int .u64 a).wf = true) : ∃ n : Nat, a = n ∧ n < 18446744073709551616 := by
  have := bounds_u64 h
  exact ⟨a.toNat, by omega, by omega⟩
end Go.Proofs.YtefmbchebobceaaGreat

/-
  Calls of package pm that only read, and those that write one field or cell.
-/
namespace Go.Proofs.YtefmbchebobceaaGreat
open Go.RowKit

theorem count_any (a : DevA) (D : DevS) (w : World) (h : DevIs w a D) : Calls Tryz.prog 39 #[.pointer (some ⟨a.bd, 0, none⟩)] w fun e w' => e = .returned (.int .i64 (D.cnt : Int)) ∧ w = w' := by
  have c := h.c6
  clear h
  go_enter Tryz.func39, Tryz.ntmps39
  go_wp2
  go_ret
  exact ⟨rfl, rfl⟩
/-! ### A field or a cell is written -/
section
variable {W : World} {a : DevA} {D : DevS}
end

end Go.Proofs.YtefmbchebobceaaGreat

/-
  Layer 4: Mixed, the reference's Mixed.
-/
namespace Go.Proofs.YtefmbchebobceaaGreat
open Go.RowKit
set_option linter.unusedVariables false

/-! ### The reference's -/
theorem bs_beq_false {x y : ByteArray} (h : x ≠ y) : (x.toList == y.toList) = false := by
  rw [beq_eq_false_iff_ne]
  intro e
  apply h
  apply ByteArray.ext
  apply Array.ext'
  rw [ByteArray.toList_eq, ByteArray.toList_eq] at e
  exact e
end Go.Proofs.YtefmbchebobceaaGreat

/-
  Layer 9: a config's head, and what a head says.
-/
namespace Go.Proofs.YtefmbchebobceaaGreat
open Go.RowKit
set_option linter.unusedVariables false

theorem Wf16.wf {C : CfgZ} (h : Wf16 C) : wfC C := by
  obtain ⟨h1, h2, -⟩ := h
  exact ⟨by omega, by omega⟩
theorem get8_lt (l : List UInt8) (k : Nat) : getL ((l.drop k).take 8) < 18446744073709551616 := by
  have h := getL_lt ((l.drop k).take 8)
  have h2 : ((l.drop k).take 8).length ≤ 8 := by simp; omega
  exact Nat.lt_of_lt_of_le h (Nat.le_trans (Nat.pow_le_pow_right (by omega) h2) (by omega))
theorem parZ_wf (l : List UInt8) : Wf16 (parZ l) := by
  have h1 := get2_lt l 8
  have h2 := get2_lt l 10
  have h3 := get2_lt l 12
  have h4 := get2_lt l 14
  exact ⟨by unfold parZ; simp only; omega, by unfold parZ; simp only; omega, by unfold parZ; simp only; omega, by unfold parZ; simp only; omega, get8_lt l 16⟩
end Go.Proofs.YtefmbchebobceaaGreat

/-
  Layer 5: the document's plans; the law's small.
-/
namespace Go.Proofs.YtefmbchebobceaaGreat
open Go.RowKit

theorem rplan_cells (p : PlanZ) (w : World) : (w.alloc (Obj.cells #[.int .i64 p.a, .int .i64 p.l, .int .i64 p.s] 131)).cell? ⟨w.heap.size, 0, none⟩ = some (.int .i64 p.a) ∧ (w.alloc (Obj.cells #[.int .i64 p.a, .int .i64 p.l, .int .i64 p.s] 131)).cell? ⟨w.heap.size, 1, none⟩ = some (.int .i64 p.l) ∧ (w.alloc (Obj.cells #[.int .i64 p.a, .int .i64 p.l, .int .i64 p.s] 131)).cell? ⟨w.heap.size, 2, none⟩ = some (.int .i64 p.s) := (Holds.new w _ _).three
theorem below_rplan (p : PlanZ) (w : World) : Below w.heap.size w (w.alloc (Obj.cells #[.int .i64 p.a, .int .i64 p.l, .int .i64 p.s] 131)) := (Below.refl _ w).alloc (Nat.le_refl _) _
theorem rtable_any (p : PlanZ) (hp : okZ p = true) (w : World) : Calls Tryz.prog 122 #[planV p] w fun e w' => e = .returned (.int .i64 (tabZ p)) ∧ Below w.heap.size w w' := by
  obtain ⟨a, l, s⟩ := p
  obtain ⟨h1, h2, h3, h4, h5, h6⟩ := (okZ_iff _).1 hp
  simp only at h1 h2 h3 h4 h5 h6
  unfold planV tabZ
  simp only
  have HB := Lib.hid ((Below.refl w.heap.size w).alloc (Nat.le_refl _) (Obj.cells #[.int .i64 a, .int .i64 l, .int .i64 s] 131))
  clear hp
  go_enter Tryz.func122, Tryz.ntmps122
  go_wp2
  go_ret
  exact ⟨rfl, HB.out⟩
set_option maxHeartbeats 4000000 in
theorem rsize_any (p : PlanZ) (hp : okZ p = true) (w : World) : Calls Tryz.prog 69 #[planV p] w fun e w' => e = .returned (.int .i64 (sizeZ p)) ∧ Below w.heap.size w w' := by
  obtain ⟨c0, c1, c2⟩ := rplan_cells p w
  have HB := Lib.hid (below_rplan p w)
  obtain ⟨w1, hw1⟩ : ∃ w1, w1 = w.alloc (Obj.cells #[.int .i64 p.a, .int .i64 p.l, .int .i64 p.s] 131) := ⟨_, rfl⟩
  have hl : w.heap.size < w1.heap.size := by rw [hw1, World.size_alloc]; omega
  have hs : sizeZ p = tabZ p + p.l + p.s := by unfold sizeZ; rw [if_pos hp]
  obtain ⟨h1, h2, h3, h4, h5, h6⟩ := (okZ_iff p).1 hp
  have HT := Lib.hid (fun W => show Calls Tryz.prog 122 #[.agg #[.int .i64 p.a, .int .i64 p.l, .int .i64 p.s]] W _ from rtable_any p hp W)
  have ht : 0 ≤ tabZ p ∧ tabZ p ≤ 8 := by unfold tabZ; omega
  obtain ⟨t, htt⟩ : ∃ t, t = tabZ p := ⟨_, rfl⟩
  rw [← htt] at HT hs ht
  have HS := Lib.hid hs
  have i1 : IntKind.i64.wrap (t + p.l) = t + p.l := IntWalk.i64_in _ (by omega)
  have i2 : IntKind.i64.wrap (t + p.l + p.s) = t + p.l + p.s := IntWalk.i64_in _ (by omega)
  clear hp hs htt ht
  unfold planV
  go_enter Tryz.func69, Tryz.ntmps69
  go_wp2_with fail
  rw [← hw1] at c0 c1 c2 HB ⊢
  clear hw1
  refine (HT.out _).mono ?_
  rintro e w2 ⟨rfl, hb2⟩
  replace c0 := (hb2.cell (p := ⟨w.heap.size, 0, none⟩) hl).trans c0
  replace c1 := (hb2.cell (p := ⟨w.heap.size, 1, none⟩) hl).trans c1
  replace c2 := (hb2.cell (p := ⟨w.heap.size, 2, none⟩) hl).trans c2
  have HB2 := Lib.hid (Below_nx HB.out hb2)
  clear hb2
  go_wp2_with fail
  go_ret
  exact ⟨by rw [HS.out]; rfl, HB2.out⟩
set_option maxHeartbeats 8000000 in
theorem rcheck_any (p : PlanZ) (n : Int) (w : World) : Calls Tryz.prog 127 #[planV p, .int .i64 n] w fun e w' => e = .returned (.int .i64 (checkZ p n)) ∧ Below w.heap.size w w' := by
  obtain ⟨c0, c1, c2⟩ := rplan_cells p w
  have HB := Lib.hid (below_rplan p w)
  by_cases h : 0 ≤ p.a ∧ p.a ≤ 8192 ∧ 1 ≤ p.l ∧ p.l ≤ 1026 ∧ 0 ≤ p.s ∧ p.s ≤ 64
  · have hok := (okZ_iff p).2 h
    obtain ⟨w1, hw1⟩ : ∃ w1, w1 = w.alloc (Obj.cells #[.int .i64 p.a, .int .i64 p.l, .int .i64 p.s] 131) := ⟨_, rfl⟩
    have hl : w.heap.size < w1.heap.size := by rw [hw1, World.size_alloc]; omega
    obtain ⟨h1, h2, h3, h4, h5, h6⟩ := h
    have HT := Lib.hid (fun W => show Calls Tryz.prog 69 #[.agg #[.int .i64 p.a, .int .i64 p.l, .int .i64 p.s]] W _ from rsize_any p hok W)
    have ht : 0 ≤ sizeZ p ∧ sizeZ p ≤ 2000 := by unfold sizeZ tabZ; rw [if_pos hok]; omega
    have hc : checkZ p n = if n < p.a + sizeZ p then 3 else 0 := by unfold checkZ; rw [if_pos hok]
    obtain ⟨t, htt⟩ : ∃ t, t = sizeZ p := ⟨_, rfl⟩
    rw [← htt] at HT ht hc
    have HC := Lib.hid hc
    have i1 : IntKind.i64.wrap (p.a + t) = p.a + t := IntWalk.i64_in _ (by omega)
    clear htt hc hok ht
    unfold planV
    by_cases hlt : n < p.a + t
    · have HC2 := Lib.hid (show checkZ p n = 3 by rw [HC.out, if_pos hlt])
      go_enter Tryz.func127, Tryz.ntmps127
      go_wp2_with fail
      rw [← hw1] at c0 c1 c2 HB ⊢
      clear hw1
      refine (HT.out _).mono ?_
      rintro e w2 ⟨rfl, hb2⟩
      replace c0 := (hb2.cell (p := ⟨w.heap.size, 0, none⟩) hl).trans c0
      have HB2 := Lib.hid (Below_nx HB.out hb2)
      clear hb2
      go_wp2_with fail
      go_ret
      exact ⟨by rw [HC2.out]; rfl, HB2.out⟩
    · have HC2 := Lib.hid (show checkZ p n = 0 by rw [HC.out, if_neg hlt])
      go_enter Tryz.func127, Tryz.ntmps127
      go_wp2_with fail
      rw [← hw1] at c0 c1 c2 HB ⊢
      clear hw1
      refine (HT.out _).mono ?_
      rintro e w2 ⟨rfl, hb2⟩
      replace c0 := (hb2.cell (p := ⟨w.heap.size, 0, none⟩) hl).trans c0
      have HB2 := Lib.hid (Below_nx HB.out hb2)
      clear hb2
      go_wp2_with fail
      go_ret
      exact ⟨by rw [HC2.out]; rfl, HB2.out⟩
  · have HC := Lib.hid (show checkZ p n = 2 by unfold checkZ; rw [okZ_no p h]; rfl)
    rw [HC.out]
    unfold planV
    by_cases h1 : 0 ≤ p.a
    · by_cases h2 : p.a ≤ 8192
      · by_cases h3 : 1 ≤ p.l
        · by_cases h4 : p.l ≤ 1026
          · by_cases h5 : 0 ≤ p.s
            · have h6 : ¬ p.s ≤ 64 := fun q => h ⟨h1, h2, h3, h4, h5, q⟩
              clear h
              go_enter Tryz.func127, Tryz.ntmps127
              go_wp2
              go_ret
              exact ⟨rfl, HB.out⟩
            · clear h
              go_enter Tryz.func127, Tryz.ntmps127
              go_wp2
              go_ret
              exact ⟨rfl, HB.out⟩
          · clear h
            go_enter Tryz.func127, Tryz.ntmps127
            go_wp2
            go_ret
            exact ⟨rfl, HB.out⟩
        · clear h
          go_enter Tryz.func127, Tryz.ntmps127
          go_wp2
          go_ret
          exact ⟨rfl, HB.out⟩
      · clear h
        go_enter Tryz.func127, Tryz.ntmps127
        go_wp2
        go_ret
        exact ⟨rfl, HB.out⟩
    · clear h
      go_enter Tryz.func127, Tryz.ntmps127
      go_wp2
      go_ret
      exact ⟨rfl, HB.out⟩
end Go.Proofs.YtefmbchebobceaaGreat

/-
  FlatMakes: the document's Check and Size of a config.
-/
namespace Go.Proofs.YtefmbchebobceaaGreat
open Go.RowKit
set_option linter.unusedVariables false

theorem rbankG9 (a l s psi : Int) (hl : -9223372036854775808 ≤ l ∧ l ≤ 9223372036854775807) (w : World) : Calls Tryz.prog 68 #[.agg #[.int .i64 a, .int .i64 l, .int .i64 s, .int .i64 psi]] w fun e w' => e = .returned (planV ⟨a, IntKind.i64.wrap (l + 2), s⟩) ∧ Gr [] w w' := by
  have HG := Lib.hid (((Gr.refl [] w).alloc (Obj.cells #[.int .i64 a, .int .i64 l, .int .i64 s, .int .i64 psi] 65)).alloc (Obj.cells #[.int .i64 0, .int .i64 0, .int .i64 0] 131))
  obtain ⟨x, hx⟩ : ∃ x : Int, IntKind.i64.wrap (l + 2) = x := ⟨_, rfl⟩
  unfold planV
  rw [hx]
  clear hl
  go_enter Tryz.func68, Tryz.ntmps68
  go_wp2_with fail
  exact bodyPost_ret (v := .agg #[.int .i64 a, .int .i64 x, .int .i64 s]) (by simp [results, Tryz.results68, go_sem]) rfl ⟨rfl, ((Gr.refl [] w).alloc _).alloc _⟩
set_option maxRecDepth 100000 in
set_option maxHeartbeats 8000000 in
theorem rchkG9 (a l s psi n : Int) (w : World) : Calls Tryz.prog 79 #[.agg #[.int .i64 a, .int .i64 l, .int .i64 s, .int .i64 psi], .int .i64 n] w fun e w' => e = .returned (.int .i64 (rcheckG a l s psi n)) ∧ Gr [] w w' := by
  have hh := Holds.new w #[.int .i64 a, .int .i64 l, .int .i64 s, .int .i64 psi] 65
  obtain ⟨c0, c1, c2, c3⟩ := (show (w.alloc (Obj.cells #[.int .i64 a, .int .i64 l, .int .i64 s, .int .i64 psi] 65)).cell? ⟨w.heap.size, 0, none⟩ = some (.int .i64 a) ∧ (w.alloc (Obj.cells #[.int .i64 a, .int .i64 l, .int .i64 s, .int .i64 psi] 65)).cell? ⟨w.heap.size, 1, none⟩ = some (.int .i64 l) ∧ (w.alloc (Obj.cells #[.int .i64 a, .int .i64 l, .int .i64 s, .int .i64 psi] 65)).cell? ⟨w.heap.size, 2, none⟩ = some (.int .i64 s) ∧ (w.alloc (Obj.cells #[.int .i64 a, .int .i64 l, .int .i64 s, .int .i64 psi] 65)).cell? ⟨w.heap.size, 3, none⟩ = some (.int .i64 psi) from ⟨hh.cell 0, hh.cell 1, hh.cell 2, hh.cell 3⟩)
  have HG := Lib.hid ((Gr.refl [] w).alloc (Obj.cells #[.int .i64 a, .int .i64 l, .int .i64 s, .int .i64 psi] 65))
  obtain ⟨w1, hw1⟩ : ∃ w1, w1 = w.alloc (Obj.cells #[.int .i64 a, .int .i64 l, .int .i64 s, .int .i64 psi] 65) := ⟨_, rfl⟩
  obtain ⟨pb, hpb⟩ : ∃ pb, pb = w.heap.size := ⟨_, rfl⟩
  rw [← hpb, ← hw1] at c0 c1 c2 c3
  rw [← hw1] at HG
  clear hh
  obtain ⟨r, hr⟩ : ∃ r, r = rcheckG a l s psi n := ⟨_, rfl⟩
  have HR := Lib.hid hr
  rw [← hr]
  clear hr
  by_cases i1 : l < 1
  · have hr : r = 2 := by rw [HR.out]; unfold rcheckG; rw [if_neg (by omega)]
    subst hr
    go_enter Tryz.func79, Tryz.ntmps79
    go_upto_region 1 with fail
    rw [← hw1, ← hpb]
    clear hw1 hpb
    go_wp2_with fail
    go_ret
    exact ⟨rfl, HG.out⟩
  · by_cases i2 : 1024 < l
    · have hr : r = 2 := by rw [HR.out]; unfold rcheckG; rw [if_neg (by omega)]
      subst hr
      go_enter Tryz.func79, Tryz.ntmps79
      go_upto_region 1 with fail
      rw [← hw1, ← hpb]
      clear hw1 hpb
      go_wp2_with fail
      go_ret
      exact ⟨rfl, HG.out⟩
    · by_cases i3 : psi < 1
      · have hr : r = 2 := by rw [HR.out]; unfold rcheckG; rw [if_neg (by omega)]
        subst hr
        go_enter Tryz.func79, Tryz.ntmps79
        go_upto_region 1 with fail
        rw [← hw1, ← hpb]
        clear hw1 hpb
        go_wp2_with fail
        go_ret
        exact ⟨rfl, HG.out⟩
      · by_cases i4 : 65535 < psi
        · have hr : r = 2 := by rw [HR.out]; unfold rcheckG; rw [if_neg (by omega)]
          subst hr
          go_enter Tryz.func79, Tryz.ntmps79
          go_upto_region 1 with fail
          rw [← hw1, ← hpb]
          clear hw1 hpb
          go_wp2_with fail
          go_ret
          exact ⟨rfl, HG.out⟩
        · have hr : r = checkZ ⟨a, l + 2, s⟩ n := by rw [HR.out]; unfold rcheckG; rw [if_pos (by omega)]
          obtain ⟨x, hx⟩ : ∃ x, x = l + 2 := ⟨_, rfl⟩
          have HB := Lib.hid (fun W => rbankG9 a l s psi (by omega) W)
          rw [show IntKind.i64.wrap (l + 2) = x from by rw [hx]; exact IntWalk.i64_in _ (by omega)] at HB
          have HC := Lib.hid (fun W => show Calls Tryz.prog 127 #[.agg #[.int .i64 a, .int .i64 x, .int .i64 s], .int .i64 n] W (fun e w' => e = .returned (.int .i64 r) ∧ Below W.heap.size W w') from by rw [hr, hx]; exact rcheck_any ⟨a, l + 2, s⟩ n W)
          unfold planV at HB
          clear hr hx
          go_enter Tryz.func79, Tryz.ntmps79
          go_upto_region 1 with fail
          rw [← hw1, ← hpb]
          clear hw1 hpb
          go_wp2_with fail
          refine (HB.out _).mono ?_
          rintro e w2 ⟨rfl, g2⟩
          have HG2 := Lib.hid ((HG.out.trans g2).alloc (Obj.cells #[.int .i64 a, .int .i64 x, .int .i64 s] 131))
          have hb := Holds.new w2 #[.int .i64 a, .int .i64 x, .int .i64 s] 131
          clear g2
          go_upto_region 4 with fail
          generalize w2.alloc (Obj.cells #[.int .i64 a, .int .i64 x, .int .i64 s] 131) = w2a at *
          obtain ⟨bb, hbb⟩ : ∃ bb, w2.heap.size = bb := ⟨_, rfl⟩
          rw [hbb] at hb ⊢
          have b0 := hb.cell 0
          have b1 := hb.cell 1
          have b2 := hb.cell 2
          clear hbb hb
          go_wp2_with fail
          refine (HC.out _).mono ?_
          rintro e w3 ⟨rfl, b3⟩
          have HG3 := Lib.hid (HG2.out.nextB b3)
          clear b3
          go_wp2_with fail
          go_ret
          exact ⟨rfl, HG3.out⟩

theorem rchk9_ok {C : CfgZ} (h : okP C) : rcheckG 0 C.l C.s C.psi 1000000 = 0 := by
  obtain ⟨h1, h2, h3, h4, h5, h6⟩ := h
  unfold rcheckG
  rw [if_pos ⟨h1, h2, h5, h6⟩]
  have hok : okZ ⟨0, C.l + 2, C.s⟩ = true := (okZ_iff _).2 ⟨by simp only; omega, by simp only; omega, by simp only; omega, by simp only; omega, by simp only; omega, by simp only; omega⟩
  unfold checkZ
  rw [if_pos hok, if_neg]
  unfold sizeZ tabZ
  rw [if_pos hok]
  simp only
  omega
theorem rchk9_no {C : CfgZ} (h : ¬ okP C) : rcheckG 0 C.l C.s C.psi 1000000 = 2 := by
  unfold rcheckG
  split
  · rename_i c
    have hok : okZ ⟨0, C.l + 2, C.s⟩ = false := by
      cases q : okZ ⟨0, C.l + 2, C.s⟩ with
      | false => rfl
      | true =>
        obtain ⟨q1, q2, q3, q4, q5, q6⟩ := (okZ_iff _).1 q
        simp only at q1 q2 q3 q4 q5 q6
        exact absurd (by unfold okP; omega) h
    unfold checkZ
    rw [hok]
    rfl
  · rfl
set_option maxRecDepth 100000 in
set_option maxHeartbeats 8000000 in
theorem rplan9 (C : CfgZ) (ho : okP C) (r : Int) (hr : 0 ≤ r ∧ r ≤ 16) (w : World) : Calls Tryz.prog 26 #[cfgV C, .int .i64 r] w fun e w' => e = .returned (.agg #[.int .i64 (1 + r * regS C), .int .i64 C.l, .int .i64 C.s, .int .i64 C.psi]) ∧ Gr [] w w' := by
  have ho' := ho
  obtain ⟨h1, h2, h3, h4, h5, h6⟩ := ho
  obtain ⟨rs, hrs⟩ := regS_ok ho'
  have hb := mul_b C hr.1 hr.2
  have hbb := regS_b C
  obtain ⟨x, hx⟩ : ∃ x, x = C.l + 2 := ⟨_, rfl⟩
  have hok : okZ ⟨0, C.l + 2, C.s⟩ = true := (okZ_iff _).2 ⟨by simp only; omega, by simp only; omega, by simp only; omega, by simp only; omega, by simp only; omega, by simp only; omega⟩
  have hsz : sizeZ ⟨0, C.l + 2, C.s⟩ = regS C := by
    rw [hrs]
    unfold sizeZ
    rw [if_pos hok]
    rfl
  have HB := Lib.hid (fun W => rbankG9 0 C.l C.s C.psi (by omega) W)
  rw [show IntKind.i64.wrap (C.l + 2) = x from by rw [hx]; exact IntWalk.i64_in _ (by omega)] at HB
  have HS := Lib.hid (fun W => show Calls Tryz.prog 69 #[.agg #[.int .i64 0, .int .i64 x, .int .i64 C.s]] W (fun e w' => e = .returned (.int .i64 (regS C)) ∧ Below W.heap.size W w') from by rw [hx, ← hsz]; exact rsize_any ⟨0, C.l + 2, C.s⟩ hok W)
  unfold planV at HB
  obtain ⟨R, l, s, psi, key⟩ := C
  simp only at h1 h2 h3 h4 h5 h6
  obtain ⟨z, hz⟩ : ∃ z, z = regS ⟨R, l, s, psi, key⟩ := ⟨_, rfl⟩
  rw [← hz] at hb HS hbb ⊢
  have m1 : IntKind.i64.wrap (r * z) = r * z := IntWalk.i64_in _ (by omega)
  have m2 : IntKind.i64.wrap (1 + r * z) = 1 + r * z := IntWalk.i64_in _ (by omega)
  unfold cfgV
  have hh := Holds.new w #[.int .i64 R, .int .i64 l, .int .i64 s, .int .i64 psi, .int .u64 (key : Int)] 27
  have hg := (Gr.refl [] w).alloc (Obj.cells #[.int .i64 R, .int .i64 l, .int .i64 s, .int .i64 psi, .int .u64 (key : Int)] 27)
  have hh2 := hh.alloc (Obj.cells #[.int .i64 0, .int .i64 0, .int .i64 0, .int .i64 0] 65)
  have hr2 := Holds.new (w.alloc (Obj.cells #[.int .i64 R, .int .i64 l, .int .i64 s, .int .i64 psi, .int .u64 (key : Int)] 27)) #[.int .i64 0, .int .i64 0, .int .i64 0, .int .i64 0] 65
  rw [World.size_alloc] at hr2
  have HG := Lib.hid (And.intro hh2 (And.intro hr2 (hg.alloc (Obj.cells #[.int .i64 0, .int .i64 0, .int .i64 0, .int .i64 0] 65))))
  clear hh hg hh2 hr2 hsz hok hrs rs ho' hx hz
  go_enter Tryz.func26, Tryz.ntmps26
  go_upto_region 1 with fail
  generalize ((w.alloc (Obj.cells #[.int .i64 R, .int .i64 l, .int .i64 s, .int .i64 psi, .int .u64 (key : Int)] 27)).alloc (Obj.cells #[.int .i64 0, .int .i64 0, .int .i64 0, .int .i64 0] 65)) = w1 at *
  obtain ⟨cb, hcb⟩ : ∃ cb, w.heap.size = cb := ⟨_, rfl⟩
  have HW := Lib.hid hcb
  rw [hcb] at HG ⊢
  clear hcb
  have c1 := HG.out.1.cell 1
  have c2 := HG.out.1.cell 2
  have c3 := HG.out.1.cell 3
  go_upto_region 2 with fail
  have hp := Holds.new w1 #[.int .i64 0, .int .i64 l, .int .i64 s, .int .i64 psi] 65
  have ga := (Gr.refl [] w1).alloc (Obj.cells #[.int .i64 0, .int .i64 l, .int .i64 s, .int .i64 psi] 65)
  have H1 := Lib.hid (And.intro hp (And.intro (HG.out.2.1.gr0 ga) (HG.out.2.2.trans ga)))
  have HLT := Lib.hid (show cb + 1 < w1.heap.size from HG.out.2.1.lt)
  clear hp ga c1 c2 c3 HG
  generalize (w1.alloc (Obj.cells #[.int .i64 0, .int .i64 l, .int .i64 s, .int .i64 psi] 65)) = w2 at *
  obtain ⟨pb, hpb⟩ : ∃ pb, w1.heap.size = pb := ⟨_, rfl⟩
  rw [hpb] at H1 HLT ⊢
  clear hpb
  have p0 := H1.out.1.cell 0
  have p1 := H1.out.1.cell 1
  have p2 := H1.out.1.cell 2
  have p3 := H1.out.1.cell 3
  go_wp2_with fail
  refine (HB.out _).mono ?_
  rintro e w3 ⟨rfl, g3⟩
  have hb3 := Holds.new w3 #[.int .i64 0, .int .i64 x, .int .i64 s] 131
  have gb := (Gr.refl [] w3).alloc (Obj.cells #[.int .i64 0, .int .i64 x, .int .i64 s] 131)
  have H3 := Lib.hid (And.intro hb3 (And.intro ((H1.out.1.gr0 g3).gr0 gb) (And.intro ((H1.out.2.1.gr0 g3).gr0 gb) ((H1.out.2.2.trans g3).trans gb))))
  clear g3 hb3 gb p0 p1 p2 p3 H1
  go_upto_region 3 with fail
  generalize (w3.alloc (Obj.cells #[.int .i64 0, .int .i64 x, .int .i64 s] 131)) = w4 at *
  obtain ⟨bb, hbb⟩ : ∃ bb, w3.heap.size = bb := ⟨_, rfl⟩
  rw [hbb] at H3 ⊢
  clear hbb
  have b0 := H3.out.1.cell 0
  have b1 := H3.out.1.cell 1
  have b2 := H3.out.1.cell 2
  go_wp2_with fail
  refine (HS.out _).mono ?_
  rintro e w5 ⟨rfl, b5⟩
  have g5 : Gr [] w4 w5 := .ofBelow b5
  have H5 := Lib.hid (And.intro (H3.out.2.1.gr0 g5) (And.intro (H3.out.2.2.1.gr0 g5) (H3.out.2.2.2.trans g5)))
  clear b5 g5 b0 b1 b2 H3
  have p0 := H5.out.1.cell 0
  have fz := H5.out.1.frozen 0
  go_upto_region 5 with fail
  have hs := H5.out.1.set 0 (.int .i64 (1 + r * z))
  have H6 := Lib.hid (show Holds (w5.setCell ⟨pb, 0, none⟩ (.int .i64 (1 + r * z))) pb #[.int .i64 (1 + r * z), .int .i64 l, .int .i64 s, .int .i64 psi] 65 ∧ Holds (w5.setCell ⟨pb, 0, none⟩ (.int .i64 (1 + r * z))) (cb + 1) #[.int .i64 0, .int .i64 0, .int .i64 0, .int .i64 0] 65 ∧ Gr [] w (w5.setCell ⟨pb, 0, none⟩ (.int .i64 (1 + r * z))) from ⟨by simpa using hs, H5.out.2.1.far (by have := HLT.out; simp only; omega) _, H5.out.2.2.setCell (.inr (by have := HLT.out; have := HW.out; simp only; omega)) _⟩)
  clear hs p0 fz H5
  generalize (w5.setCell ⟨pb, 0, none⟩ (.int .i64 (1 + r * z))) = w6 at *
  have p0 := H6.out.1.cell 0
  have p1 := H6.out.1.cell 1
  have p2 := H6.out.1.cell 2
  have p3 := H6.out.1.cell 3
  have q0 := H6.out.2.1.cell 0
  have q1 := H6.out.2.1.cell 1
  have q2 := H6.out.2.1.cell 2
  have q3 := H6.out.2.1.cell 3
  have f0 := H6.out.2.1.frozen 0
  have f1 := H6.out.2.1.frozen 1
  have f2 := H6.out.2.1.frozen 2
  have f3 := H6.out.2.1.frozen 3
  have HF := Lib.hid ((((H6.out.2.2.setCell (p := ⟨cb + 1, 0, none⟩) (.inr (by have := HW.out; simp only; omega)) (.int .i64 (1 + r * z))).setCell (p := ⟨cb + 1, 1, none⟩) (.inr (by have := HW.out; simp only; omega)) (.int .i64 l)).setCell (p := ⟨cb + 1, 2, none⟩) (.inr (by have := HW.out; simp only; omega)) (.int .i64 s)).setCell (p := ⟨cb + 1, 3, none⟩) (.inr (by have := HW.out; simp only; omega)) (.int .i64 psi))
  go_wp2_with fail
  exact bodyPost_ret (v := .agg #[.int .i64 (1 + r * z), .int .i64 l, .int .i64 s, .int .i64 psi]) (by simp [results, Tryz.results26, go_sem, *]) rfl ⟨rfl, HF.out⟩
end Go.Proofs.YtefmbchebobceaaGreat

/-
  FlatMakes: the document's Check and Size of a config: what the program's are.
-/
namespace Go.Proofs.YtefmbchebobceaaGreat
open Go.RowKit
set_option linter.unusedVariables false

theorem check9_no {C : CfgZ} {n : Int} (h : ¬ (1 ≤ C.r ∧ C.r ≤ 16 ∧ okP C)) : checkC C n = 2 := by
  unfold checkC sizeC
  rw [if_neg h, if_pos rfl]
theorem check9_ok {C : CfgZ} {n : Int} (h : 1 ≤ C.r ∧ C.r ≤ 16 ∧ okP C) : sizeC C = 1 + C.r * regS C ∧ 1 ≤ sizeC C ∧ checkC C n = if n < 1 + C.r * regS C then 3 else 0 := by
  have hb := mul_b C (k := C.r) (by omega) h.2.1
  have hs : sizeC C = 1 + C.r * regS C := by unfold sizeC; rw [if_pos h]
  refine ⟨hs, by omega, ?_⟩
  unfold checkC
  rw [if_neg (by omega), hs]
theorem sizeC_zero {C : CfgZ} {n : Int} : checkC C n = 2 ↔ sizeC C = 0 := by
  unfold checkC
  constructor
  · intro h
    by_cases c : sizeC C = 0
    · exact c
    · rw [if_neg c] at h
      split at h <;> omega
  · intro h
    rw [if_pos h]
set_option maxRecDepth 100000 in
set_option maxHeartbeats 8000000 in
theorem rsize9 (C : CfgZ) (h : 1 ≤ C.r ∧ C.r ≤ 16 ∧ okP C) (w : World) : Calls Tryz.prog 10 #[cfgV C] w fun e w' => e = .returned (.int .i64 (sizeC C)) ∧ Gr [] w w' := by
  have HP := Lib.hid (fun W => rplan9 C h.2.2 C.r ⟨by omega, h.2.1⟩ W)
  obtain ⟨z, hz⟩ : ∃ z, z = sizeC C := ⟨_, rfl⟩
  rw [← (check9_ok (n := 0) h).1, ← hz] at HP
  rw [← hz]
  clear hz h
  obtain ⟨R, l, s, psi, key⟩ := C
  unfold cfgV at HP ⊢
  have hh := Holds.new w #[.int .i64 R, .int .i64 l, .int .i64 s, .int .i64 psi, .int .u64 (key : Int)] 27
  have HG := Lib.hid ((Gr.refl [] w).alloc (Obj.cells #[.int .i64 R, .int .i64 l, .int .i64 s, .int .i64 psi, .int .u64 (key : Int)] 27))
  go_enter Tryz.func10, Tryz.ntmps10
  go_upto_region 1 with fail
  generalize (w.alloc (Obj.cells #[.int .i64 R, .int .i64 l, .int .i64 s, .int .i64 psi, .int .u64 (key : Int)] 27)) = w1 at *
  obtain ⟨cb, hcb⟩ : ∃ cb, w.heap.size = cb := ⟨_, rfl⟩
  rw [hcb] at hh ⊢
  clear hcb
  have c0 := hh.cell 0
  have c1 := hh.cell 1
  have c2 := hh.cell 2
  have c3 := hh.cell 3
  have c4 := hh.cell 4
  clear hh
  go_wp2_with fail
  with_reducible refine (HP.out _).mono ?_
  rintro e w2 ⟨rfl, g2⟩
  have hp := Holds.new w2 #[.int .i64 z, .int .i64 l, .int .i64 s, .int .i64 psi] 65
  have HG2 := Lib.hid ((HG.out.trans g2).alloc (Obj.cells #[.int .i64 z, .int .i64 l, .int .i64 s, .int .i64 psi] 65))
  clear g2 c0 c1 c2 c3 c4 HG
  go_upto_region 2 with fail
  generalize (w2.alloc (Obj.cells #[.int .i64 z, .int .i64 l, .int .i64 s, .int .i64 psi] 65)) = w3 at *
  obtain ⟨pb, hpb⟩ : ∃ pb, w2.heap.size = pb := ⟨_, rfl⟩
  rw [hpb] at hp ⊢
  clear hpb
  have p0 := hp.cell 0
  clear hp
  go_wp2_with fail
  go_ret
  exact ⟨rfl, HG2.out⟩
set_option maxRecDepth 100000 in
set_option maxHeartbeats 16000000 in
theorem rcheck9 (C : CfgZ) (n : Int) (w : World) : Calls Tryz.prog 38 #[cfgV C, .int .i64 n] w fun e w' => e = .returned (.int .i64 (checkC C n)) ∧ Gr [] w w' := by
  have HC := Lib.hid (fun W => rchkG9 0 C.l C.s C.psi 1000000 W)
  obtain ⟨ck, hck⟩ : ∃ ck, ck = checkC C n := ⟨_, rfl⟩
  rw [← hck]
  have HCK := Lib.hid hck
  have HOk := Lib.hid (fun (h : okP C) => rchk9_ok h)
  have HNo := Lib.hid (fun (h : ¬ okP C) => rchk9_no h)
  obtain ⟨g, hg⟩ : ∃ g, g = rcheckG 0 C.l C.s C.psi 1000000 := ⟨_, rfl⟩
  rw [← hg] at HC HOk HNo
  have HSz := Lib.hid (fun (h : 1 ≤ C.r ∧ C.r ≤ 16 ∧ okP C) W => rsize9 C h W)
  have HNN := Lib.hid (fun (h : ¬ (1 ≤ C.r ∧ C.r ≤ 16 ∧ okP C)) => hck.trans (check9_no h))
  have HYY := Lib.hid (fun (h : 1 ≤ C.r ∧ C.r ≤ 16 ∧ okP C) => And.intro (check9_ok (n := n) h).1 (hck.trans (check9_ok h).2.2))
  clear hg hck HCK
  obtain ⟨ok, hok⟩ : ∃ ok : Prop, ok = okP C := ⟨_, rfl⟩
  rw [← hok] at HOk HNo HSz HNN HYY
  obtain ⟨zC, hzC⟩ : ∃ zC, zC = sizeC C := ⟨_, rfl⟩
  rw [← hzC] at HSz HYY
  obtain ⟨yC, hyC⟩ : ∃ yC, yC = 1 + C.r * regS C := ⟨_, rfl⟩
  rw [← hyC] at HYY
  clear hok hzC hyC
  obtain ⟨R, l, s, psi, key⟩ := C
  unfold cfgV at HSz ⊢
  simp only at HC HSz HNN HYY
  have hh := Holds.new w #[.int .i64 R, .int .i64 l, .int .i64 s, .int .i64 psi, .int .u64 (key : Int)] 27
  have HG := Lib.hid ((Gr.refl [] w).alloc (Obj.cells #[.int .i64 R, .int .i64 l, .int .i64 s, .int .i64 psi, .int .u64 (key : Int)] 27))
  go_enter Tryz.func38, Tryz.ntmps38
  go_upto_region 1 with fail
  generalize (w.alloc (Obj.cells #[.int .i64 R, .int .i64 l, .int .i64 s, .int .i64 psi, .int .u64 (key : Int)] 27)) = w1 at *
  obtain ⟨cb, hcb⟩ : ∃ cb, w.heap.size = cb := ⟨_, rfl⟩
  rw [hcb] at hh ⊢
  clear hcb
  have c1 := hh.cell 1
  have c2 := hh.cell 2
  have c3 := hh.cell 3
  go_upto_region 2 with fail
  have hp := Holds.new w1 #[.int .i64 0, .int .i64 l, .int .i64 s, .int .i64 psi] 65
  have ga := (Gr.refl [] w1).alloc (Obj.cells #[.int .i64 0, .int .i64 l, .int .i64 s, .int .i64 psi] 65)
  have H1 := Lib.hid (And.intro (hh.gr0 ga) (HG.out.trans ga))
  clear ga c1 c2 c3 hh HG
  generalize (w1.alloc (Obj.cells #[.int .i64 0, .int .i64 l, .int .i64 s, .int .i64 psi] 65)) = w2 at *
  obtain ⟨pb, hpb⟩ : ∃ pb, w1.heap.size = pb := ⟨_, rfl⟩
  rw [hpb] at hp ⊢
  clear hpb
  have p0 := hp.cell 0
  have p1 := hp.cell 1
  have p2 := hp.cell 2
  have p3 := hp.cell 3
  clear hp
  go_wp2_with fail
  refine (HC.out _).mono ?_
  rintro e w3 ⟨rfl, g3⟩
  have H3 := Lib.hid (And.intro (H1.out.1.gr0 g3) (H1.out.2.trans g3))
  clear g3 p0 p1 p2 p3 H1 HC
  have c0 := H3.out.1.cell 0
  have c1 := H3.out.1.cell 1
  have c2 := H3.out.1.cell 2
  have c3 := H3.out.1.cell 3
  have c4 := H3.out.1.cell 4
  by_cases ho : ok
  · have hg0 : g = 0 := HOk.out ho
    subst hg0
    by_cases i1 : R < 1
    · obtain rfl : ck = 2 := HNN.out (by omega)
      clear HOk HNo HSz HNN HYY ho
      go_wp2_with fail
      go_ret
      exact ⟨rfl, H3.out.2⟩
    · by_cases i2 : 16 < R
      · obtain rfl : ck = 2 := HNN.out (by omega)
        clear HOk HNo HSz HNN HYY ho
        go_wp2_with fail
        go_ret
        exact ⟨rfl, H3.out.2⟩
      · obtain ⟨hy1, hy2⟩ := HYY.out ⟨by omega, by omega, ho⟩
        have HS := Lib.hid (fun W => HSz.out ⟨by omega, by omega, ho⟩ W)
        rw [← hy1] at hy2
        by_cases i3 : n < zC
        · rw [if_pos i3] at hy2
          subst hy2
          clear HOk HNo HSz HNN HYY ho hy1
          go_wp2_with fail
          refine (HS.out _).mono ?_
          rintro e w4 ⟨rfl, g4⟩
          have H4 := Lib.hid (H3.out.2.trans g4)
          clear g4 c0 c1 c2 c3 c4 H3
          go_wp2_with fail
          go_ret
          exact ⟨rfl, H4.out⟩
        · rw [if_neg i3] at hy2
          subst hy2
          clear HOk HNo HSz HNN HYY ho hy1
          go_wp2_with fail
          refine (HS.out _).mono ?_
          rintro e w4 ⟨rfl, g4⟩
          have H4 := Lib.hid (H3.out.2.trans g4)
          clear g4 c0 c1 c2 c3 c4 H3
          go_wp2_with fail
          go_ret
          exact ⟨rfl, H4.out⟩
  · have hg0 : g = 2 := HNo.out ho
    subst hg0
    obtain rfl : ck = 2 := HNN.out (fun h => ho h.2.2)
    clear HOk HNo HSz HNN HYY ho
    go_wp2_with fail
    go_ret
    exact ⟨rfl, H3.out.2⟩
end Go.Proofs.YtefmbchebobceaaGreat
