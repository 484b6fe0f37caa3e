/-
  PjAb: SpB, Map, NiE.
-/
import Derived.Test.YtjbhallhmnahbaaGreatPjAa
import Derived.Maps.RangeWalk
import Derived.Maps.OwnSet

set_option linter.unusedVariables false

/-
  Layer 5: a plan's Size, Check, places.
-/
namespace Go.Proofs.YtjbhallhmnahbaaGreat
open Go.RowKit

theorem plan_cells (p : PlanZ) (w : World) : (w.alloc (Obj.cells #[.int .i64 p.a, .int .i64 p.l, .int .i64 p.s] 158)).cell? ⟨w.heap.size, 0, none⟩ = some (.int .i64 p.a) ∧ (w.alloc (Obj.cells #[.int .i64 p.a, .int .i64 p.l, .int .i64 p.s] 158)).cell? ⟨w.heap.size, 1, none⟩ = some (.int .i64 p.l) ∧ (w.alloc (Obj.cells #[.int .i64 p.a, .int .i64 p.l, .int .i64 p.s] 158)).cell? ⟨w.heap.size, 2, none⟩ = some (.int .i64 p.s) := (Holds.new w _ _).three
theorem below_plan (p : PlanZ) (w : World) : Below w.heap.size w (w.alloc (Obj.cells #[.int .i64 p.a, .int .i64 p.l, .int .i64 p.s] 158)) := (Below.refl _ w).alloc (Nat.le_refl _) _
set_option maxHeartbeats 4000000 in
theorem size_any (p : PlanZ) (w : World) : Calls Tryz.prog 85 #[planV p] w fun e w' => e = .returned (.int .i64 (sizeZ p)) ∧ Below w.heap.size w w' := by
  obtain ⟨c0, c1, c2⟩ := plan_cells p w
  have HB := Lib.hid (below_plan p w)
  have HR := Lib.hid (fun W => show Calls Tryz.prog 139 #[.agg #[.int .i64 p.a, .int .i64 p.l, .int .i64 p.s]] W _ from right_any p W)
  obtain ⟨w1, hw1⟩ : ∃ w1, w1 = w.alloc (Obj.cells #[.int .i64 p.a, .int .i64 p.l, .int .i64 p.s] 158) := ⟨_, rfl⟩
  have hl : w.heap.size < w1.heap.size := by rw [hw1, World.size_alloc]; omega
  by_cases hp : okZ p = true
  · rw [hp] at HR
    have hs : sizeZ p = tabZ p + p.l + p.s := by unfold sizeZ; rw [if_pos hp]
    obtain ⟨h1, h2, h3, h4, h5, h6⟩ := (okZ_iff p).1 hp
    have HT := Lib.hid (fun W => show Calls Tryz.prog 140 #[.agg #[.int .i64 p.a, .int .i64 p.l, .int .i64 p.s]] W _ from table_any p hp W)
    have ht : 0 ≤ tabZ p ∧ tabZ p ≤ 8 := by unfold tabZ; omega
    obtain ⟨t, htt⟩ : ∃ t, t = tabZ p := ⟨_, rfl⟩
    rw [← htt] at HT hs ht
    obtain ⟨ht0, ht8⟩ := ht
    have HS := Lib.hid hs
    clear hp hs htt
    unfold planV
    go_enter Tryz.func85, Tryz.ntmps85
    go_wp2_with fail
    rw [← hw1] at c0 c1 c2 HB ⊢
    clear hw1
    refine (HR.out _).mono ?_
    rintro e w2 ⟨rfl, hb2⟩
    replace c0 := (hb2.cell (p := ⟨w.heap.size, 0, none⟩) hl).trans c0
    replace c1 := (hb2.cell (p := ⟨w.heap.size, 1, none⟩) hl).trans c1
    replace c2 := (hb2.cell (p := ⟨w.heap.size, 2, none⟩) hl).trans c2
    have HB2 := Lib.hid (Below_nx HB.out hb2)
    have k0 := kp_cell c0
    have k1 := kp_cell c1
    have k2 := kp_cell c2
    have hne := kp_ne w2
    clear hb2
    have i1 : IntKind.i64.wrap (t + p.l) = t + p.l := IntWalk.i64_in _ (by omega)
    have i2 : IntKind.i64.wrap (t + p.l + p.s) = t + p.l + p.s := IntWalk.i64_in _ (by omega)
    go_wp2_with fail
    refine wp_region_kp (by kernel_rfl) (by kernel_rfl) ?_
    repeat (go_big_quiet_step ((rename_i x; exact kp_call x (HT.out _))))
    with_reducible refine wpQuiet_nil ?_
    rintro _ ⟨y, rfl⟩
    have HBy := Lib.hid (Below_nx HB2.out y.h)
    clear k0 k1 k2 hne
    generalize y.w = w3 at *
    clear y
    go_wp2_with fail
    go_ret
    exact ⟨by rw [HS.out]; rfl, HBy.out⟩
  · have hp : okZ p = false := by simpa using hp
    rw [hp] at HR
    have hs : sizeZ p = 0 := by unfold sizeZ; rw [hp]; rfl
    rw [hs]
    clear hp hs
    unfold planV
    go_enter Tryz.func85, Tryz.ntmps85
    go_wp2_with fail
    refine (HR.out _).mono ?_
    rintro e w2 ⟨rfl, hb2⟩
    have HB2 := Lib.hid (Below_nx HB.out hb2)
    clear hb2
    go_wp2_with fail
    go_ret
    exact ⟨rfl, HB2.out⟩
set_option maxHeartbeats 4000000 in
theorem lineat_any (p : PlanZ) (hp : okZ p = true) (i : Int) (h0 : 0 ≤ i) (h9 : i ≤ 65536) (w : World) : Calls Tryz.prog 178 #[planV p, .int .i64 i] w fun e w' => e = .returned (.int .i64 (p.a + tabZ p + i)) ∧ Below w.heap.size w w' := by
  obtain ⟨c0, c1, c2⟩ := plan_cells p w
  have HB := Lib.hid (below_plan p w)
  obtain ⟨w1, hw1⟩ : ∃ w1, w1 = w.alloc (Obj.cells #[.int .i64 p.a, .int .i64 p.l, .int .i64 p.s] 158) := ⟨_, rfl⟩
  obtain ⟨h1, h2, h3, h4, h5, h6⟩ := (okZ_iff p).1 hp
  have HT := Lib.hid (fun W => show Calls Tryz.prog 140 #[.agg #[.int .i64 p.a, .int .i64 p.l, .int .i64 p.s]] W _ from table_any p hp W)
  have ht : 0 ≤ tabZ p ∧ tabZ p ≤ 8 := by unfold tabZ; omega
  obtain ⟨t, htt⟩ : ∃ t, t = tabZ p := ⟨_, rfl⟩
  rw [← htt] at HT ht ⊢
  obtain ⟨ht0, ht8⟩ := ht
  clear hp htt
  unfold planV
  go_enter Tryz.func178, Tryz.ntmps178
  go_wp2_with fail
  rw [← hw1] at c0 c1 c2 HB ⊢
  clear hw1
  have k0 := kp_cell c0
  have k1 := kp_cell c1
  have k2 := kp_cell c2
  have hne := kp_ne w1
  have i0 : IntKind.i64.wrap (p.a + t) = p.a + t := IntWalk.i64_in _ (by omega)
  have i1 : IntKind.i64.wrap (p.a + t + i) = p.a + t + i := IntWalk.i64_in _ (by omega)
  refine wp_region_kp (by kernel_rfl) (by kernel_rfl) ?_
  repeat (go_big_quiet_step ((rename_i x; exact kp_call x (HT.out _))))
  with_reducible refine wpQuiet_nil ?_
  rintro _ ⟨y, rfl⟩
  have HBy := Lib.hid (Below_nx HB.out y.h)
  clear k0 k1 k2 hne
  generalize y.w = w3 at *
  clear y
  go_wp2_with fail
  go_ret
  exact ⟨rfl, HBy.out⟩
set_option maxHeartbeats 4000000 in
theorem spareat_any (p : PlanZ) (hp : okZ p = true) (k : Int) (h0 : 0 ≤ k) (h9 : k ≤ 65536) (w : World) : Calls Tryz.prog 177 #[planV p, .int .i64 k] w fun e w' => e = .returned (.int .i64 (p.a + tabZ p + p.l + k)) ∧ Below w.heap.size w w' := by
  obtain ⟨c0, c1, c2⟩ := plan_cells p w
  have HB := Lib.hid (below_plan p w)
  obtain ⟨w1, hw1⟩ : ∃ w1, w1 = w.alloc (Obj.cells #[.int .i64 p.a, .int .i64 p.l, .int .i64 p.s] 158) := ⟨_, rfl⟩
  obtain ⟨h1, h2, h3, h4, h5, h6⟩ := (okZ_iff p).1 hp
  have HT := Lib.hid (fun W => show Calls Tryz.prog 140 #[.agg #[.int .i64 p.a, .int .i64 p.l, .int .i64 p.s]] W _ from table_any p hp W)
  have ht : 0 ≤ tabZ p ∧ tabZ p ≤ 8 := by unfold tabZ; omega
  obtain ⟨t, htt⟩ : ∃ t, t = tabZ p := ⟨_, rfl⟩
  rw [← htt] at HT ht ⊢
  obtain ⟨ht0, ht8⟩ := ht
  clear hp htt
  unfold planV
  go_enter Tryz.func177, Tryz.ntmps177
  go_wp2_with fail
  rw [← hw1] at c0 c1 c2 HB ⊢
  clear hw1
  have k0 := kp_cell c0
  have k1 := kp_cell c1
  have k2 := kp_cell c2
  have hne := kp_ne w1
  have i0 : IntKind.i64.wrap (p.a + t) = p.a + t := IntWalk.i64_in _ (by omega)
  have i1 : IntKind.i64.wrap (p.a + t + p.l) = p.a + t + p.l := IntWalk.i64_in _ (by omega)
  have i2 : IntKind.i64.wrap (p.a + t + p.l + k) = p.a + t + p.l + k := IntWalk.i64_in _ (by omega)
  refine wp_region_kp (by kernel_rfl) (by kernel_rfl) ?_
  repeat (go_big_quiet_step ((rename_i x; exact kp_call x (HT.out _))))
  with_reducible refine wpQuiet_nil ?_
  rintro _ ⟨y, rfl⟩
  have HBy := Lib.hid (Below_nx HB.out y.h)
  clear k0 k1 k2 hne
  generalize y.w = w3 at *
  clear y
  go_wp2_with fail
  go_ret
  exact ⟨rfl, HBy.out⟩
set_option maxHeartbeats 4000000 in
theorem check_any (p : PlanZ) (n : Int) (w : World) : Calls Tryz.prog 138 #[planV p, .int .i64 n] w fun e w' => e = .returned (.int .i64 (checkZ p n)) ∧ Below w.heap.size w w' := by
  obtain ⟨c0, c1, c2⟩ := plan_cells p w
  have HB := Lib.hid (below_plan p w)
  have HR := Lib.hid (fun W => show Calls Tryz.prog 139 #[.agg #[.int .i64 p.a, .int .i64 p.l, .int .i64 p.s]] W _ from right_any p W)
  obtain ⟨w1, hw1⟩ : ∃ w1, w1 = w.alloc (Obj.cells #[.int .i64 p.a, .int .i64 p.l, .int .i64 p.s] 158) := ⟨_, rfl⟩
  have hl : w.heap.size < w1.heap.size := by rw [hw1, World.size_alloc]; omega
  by_cases hp : okZ p = true
  · rw [hp] at HR
    obtain ⟨h1, h2, h3, h4, h5, h6⟩ := (okZ_iff p).1 hp
    have HT := Lib.hid (fun W => show Calls Tryz.prog 85 #[.agg #[.int .i64 p.a, .int .i64 p.l, .int .i64 p.s]] W _ from size_any p W)
    have ht : 0 ≤ sizeZ p ∧ sizeZ p ≤ 2000 := by unfold sizeZ tabZ; rw [if_pos hp]; omega
    have hc : checkZ p n = if n < p.a + sizeZ p then 3 else 0 := by unfold checkZ; rw [if_pos hp]
    obtain ⟨t, htt⟩ : ∃ t, t = sizeZ p := ⟨_, rfl⟩
    rw [← htt] at HT ht hc
    obtain ⟨ht0, ht8⟩ := ht
    have HC := Lib.hid hc
    clear hp htt hc
    have i1 : IntKind.i64.wrap (p.a + t) = p.a + t := IntWalk.i64_in _ (by omega)
    unfold planV
    by_cases hlt : n < p.a + t
    · have HC2 := Lib.hid (show checkZ p n = 3 by rw [HC.out, if_pos hlt])
      have d1 : decide (n < p.a + t) = true := decide_eq_true hlt
      clear hlt
      go_enter Tryz.func138, Tryz.ntmps138
      go_wp2_with fail
      rw [← hw1] at c0 c1 c2 HB ⊢
      clear hw1
      refine (HR.out _).mono ?_
      rintro e w2 ⟨rfl, hb2⟩
      replace c0 := (hb2.cell (p := ⟨w.heap.size, 0, none⟩) hl).trans c0
      replace c1 := (hb2.cell (p := ⟨w.heap.size, 1, none⟩) hl).trans c1
      replace c2 := (hb2.cell (p := ⟨w.heap.size, 2, none⟩) hl).trans c2
      have HB2 := Lib.hid (Below_nx HB.out hb2)
      have k0 := kp_cell c0
      have k1 := kp_cell c1
      have k2 := kp_cell c2
      have hne := kp_ne w2
      clear hb2
      go_wp2_with fail
      refine wp_region_kp (by kernel_rfl) (by kernel_rfl) ?_
      repeat (go_big_quiet_step ((rename_i x; exact kp_call x (HT.out _))))
      with_reducible refine wpQuiet_nil ?_
      rintro _ ⟨y, rfl⟩
      have HBy := Lib.hid (Below_nx HB2.out y.h)
      clear k0 k1 k2 hne
      generalize y.w = w3 at *
      clear y
      go_wp2_with fail
      go_ret
      exact ⟨by rw [HC2.out]; rfl, HBy.out⟩
    · have HC2 := Lib.hid (show checkZ p n = 0 by rw [HC.out, if_neg hlt])
      have d1 : decide (n < p.a + t) = false := decide_eq_false hlt
      clear hlt
      go_enter Tryz.func138, Tryz.ntmps138
      go_wp2_with fail
      rw [← hw1] at c0 c1 c2 HB ⊢
      clear hw1
      refine (HR.out _).mono ?_
      rintro e w2 ⟨rfl, hb2⟩
      replace c0 := (hb2.cell (p := ⟨w.heap.size, 0, none⟩) hl).trans c0
      replace c1 := (hb2.cell (p := ⟨w.heap.size, 1, none⟩) hl).trans c1
      replace c2 := (hb2.cell (p := ⟨w.heap.size, 2, none⟩) hl).trans c2
      have HB2 := Lib.hid (Below_nx HB.out hb2)
      have k0 := kp_cell c0
      have k1 := kp_cell c1
      have k2 := kp_cell c2
      have hne := kp_ne w2
      clear hb2
      go_wp2_with fail
      refine wp_region_kp (by kernel_rfl) (by kernel_rfl) ?_
      repeat (go_big_quiet_step ((rename_i x; exact kp_call x (HT.out _))))
      with_reducible refine wpQuiet_nil ?_
      rintro _ ⟨y, rfl⟩
      have HBy := Lib.hid (Below_nx HB2.out y.h)
      clear k0 k1 k2 hne
      generalize y.w = w3 at *
      clear y
      go_wp2_with fail
      go_ret
      exact ⟨by rw [HC2.out]; rfl, HBy.out⟩
  · have hp : okZ p = false := by simpa using hp
    rw [hp] at HR
    have hs : checkZ p n = 2 := by unfold checkZ; rw [hp]; rfl
    rw [hs]
    clear hp hs
    unfold planV
    go_enter Tryz.func138, Tryz.ntmps138
    go_wp2_with fail
    refine (HR.out _).mono ?_
    rintro e w2 ⟨rfl, hb2⟩
    have HB2 := Lib.hid (Below_nx HB.out hb2)
    clear hb2
    go_wp2_with fail
    go_ret
    exact ⟨rfl, HB2.out⟩
end Go.Proofs.YtjbhallhmnahbaaGreat

/-
  Maps keyed by int, as functions of the key: look-up, store, delete, clear, range.
-/
namespace Go.Proofs.YtjbhallhmnahbaaGreat
open Go.RowKit
open Go.Maps (Keyed has)

/-- How the elements of a map are written and read. -/
structure EltLaw (P : Program) (e : TypeId) (α : Type) where
  val : α → Value
  enc : α → DataW Unit
  R : Value → Option (DataW Unit × List MemPlace)
  R_mk : ∀ a, R (val a) = some (enc a, [])
  R_inv : ∀ v y, R v = some y → ∃ a, v = val a ∧ y = (enc a, [])
  enc_inj : ∀ a b, enc a = enc b → a = b
  zero : α
  zero_run : ∀ w, (zeroValue e).run P w = .ok (val zero) w

section
variable {P : Program} {k e t : TypeId} {α : Type} {E : EltLaw P e α} {w w' : World} {b n r : Nat}

def WfZ (z : Int) : Prop := (Lit.int .i64 z).wf = true
theorem wfZ {z : Int} (h1 : -9223372036854775808 ≤ z) (h2 : z ≤ 9223372036854775807) : WfZ z := WalkArith.wf_i64 ⟨h1, h2⟩
theorem key_self (z : Int) : (Lit.int IntKind.i64 z).sameKey (.int .i64 z) = true := WideAt.sameKey_self (by simp [WideAt.IsKeyLit])
theorem key_ne {y z : Int} (h : y ≠ z) : (Lit.int IntKind.i64 y).sameKey (.int .i64 z) = false := Maps.sameKey_ne (by intro q; injection q; contradiction)
theorem key_is (y z : Int) : (Lit.int IntKind.i64 y).sameKey (.int .i64 z) = decide (y = z) := by
  by_cases h : y = z
  · subst h; simp [key_self]
  · simp [key_ne h, h]
/-- The datum D is the function f. -/
def MIs (E : EltLaw P e α) (D : DataW Unit) (f : Int → Option α) : Prop := ∀ z, WfZ z → has D (.int .i64 z) = (f z).isSome ∧ ∀ zd, D.atKey (.int .i64 z) zd = ((f z).map E.enc).getD zd
/-- Block b is a map of at most n entries, which is f. -/
def MapZ (E : EltLaw P e α) (k : TypeId) (w : World) (b n : Nat) (f : Int → Option α) : Prop := ∃ D, w.ownsMap P k E.R b n D ∧ MIs E D f
def updZ (f : Int → Option α) (z : Int) (v : Option α) : Int → Option α := fun y => if y = z then v else f y

theorem MIs.put {D : DataW Unit} {f : Int → Option α} (h : MIs E D f) (hD : Maps.IsMap D) (z : Int) (a : α) : MIs E (D.put (.int .i64 z) (E.enc a)) (updZ f z (some a)) := by
  intro y hy
  by_cases q : y = z
  · subst q
    refine ⟨?_, fun zd => ?_⟩
    · rw [Maps.has_put_same hD (by simp [WideAt.IsKeyLit])]; simp [updZ]
    · rw [Maps.atKey_put_same hD (by simp [WideAt.IsKeyLit])]; simp [updZ]
  · have hne : (Lit.int IntKind.i64 y) ≠ .int .i64 z := by intro e; injection e; contradiction
    refine ⟨?_, fun zd => ?_⟩
    · rw [Maps.has_put_other hne, (h y hy).1]; simp [updZ, q]
    · rw [Maps.atKey_put_other hne, (h y hy).2]; simp [updZ, q]
theorem MIs.del {D : DataW Unit} {f : Int → Option α} (h : MIs E D f) (z : Int) : MIs E (D.del (.int .i64 z)) (updZ f z none) := by
  intro y hy
  by_cases q : y = z
  · subst q
    refine ⟨?_, fun zd => ?_⟩
    · rw [Maps.has_del_same]; simp [updZ]
    · rw [Maps.atKey_del_same]; simp [updZ]
  · have hne : (Lit.int IntKind.i64 y) ≠ .int .i64 z := by intro e; injection e; contradiction
    refine ⟨?_, fun zd => ?_⟩
    · rw [Maps.has_del_other hne, (h y hy).1]; simp [updZ, q]
    · rw [Maps.atKey_del_other hne, (h y hy).2]; simp [updZ, q]
theorem MIs.empty : MIs E (.map []) (fun _ => none) := by
  intro y _
  exact ⟨rfl, fun zd => rfl⟩
theorem MIs.some {D : DataW Unit} {f : Int → Option α} (h : MIs E D f) {z : Int} (hz : WfZ z) {a : α} (ha : ∀ zd, D.atKey (.int .i64 z) zd = E.enc a) (hn : has D (.int .i64 z) = true) : f z = .some a := by
  obtain ⟨h1, h2⟩ := h z hz
  rw [hn] at h1
  cases q : f z with
  | none => rw [q] at h1; cases h1
  | some c =>
    have := h2 (E.enc a)
    rw [ha, q] at this
    rw [E.enc_inj _ _ this]

theorem MapZ.lt {f : Int → Option α} (h : MapZ E k w b n f) : b < w.heap.size := by obtain ⟨D, h, _⟩ := h; exact h.lt
theorem MapZ.mono {f : Int → Option α} {m : Nat} (h : MapZ E k w b n f) (hm : n ≤ m) : MapZ E k w b m f := by obtain ⟨D, h, q⟩ := h; exact ⟨D, h.mono hm, q⟩
theorem MapZ.made (w : World) : MapZ E k (w.alloc (.map #[] 0)) w.heap.size 0 (fun _ => none) := ⟨.map [], World.ownsMap_made _ _ _ _, MIs.empty⟩
theorem MapZ.block {f : Int → Option α} (h : MapZ E k w b n f) (hb : w'.heap[b]? = w.heap[b]?) : MapZ E k w' b n f := by
  obtain ⟨D, ⟨es, clock, h1, h2, h3, h4⟩, q⟩ := h
  exact ⟨D, ⟨es, clock, hb.trans h1, h2, h3, h4⟩, q⟩
theorem MapZ.gr {f : Int → Option α} {bs : List Nat} (h : MapZ E k w b n f) (g : Gr bs w w') (hn : b ∉ bs) : MapZ E k w' b n f := h.block (g.block b h.lt hn)
theorem MapZ.gr0 {f : Int → Option α} (h : MapZ E k w b n f) (g : Gr [] w w') : MapZ E k w' b n f := h.gr g (by simp)
theorem Gr.ofGrown {row : Option Nat} (h : w.grownBy w' row) : Gr row.toList w w' := ⟨h.os, h.tape, h.output, h.size, fun i hi hn => h.block i hi (fun e => hn (by rw [← e]; simp))⟩

theorem MapZ.look {f : Int → Option α} (h : MapZ E k w b n f) (hk : P.underlying k = some (.int .i64)) (ht : P.underlying t = some (.map k e)) {z : Int} (hz : WfZ z) :
    (Instr.lookup t (.map (some b)) (.int .i64 z) false).run P w = .ok (E.val ((f z).getD E.zero)) w := by
  obtain ⟨D, h, q⟩ := h
  obtain ⟨v, ps, hrun, hv⟩ := h.lookup (Maps.int_keyed hk) ht (E.zero_run w) (E.R_mk E.zero) (Maps.keyOf_int_mk hk hz)
  obtain ⟨a, rfl, ha⟩ := E.R_inv _ _ hv
  rw [hrun]
  have h2 := (q z hz).2 (E.enc E.zero)
  injection ha with ha _
  rw [ha] at h2
  congr 2
  cases c : f z with
  | none => rw [c] at h2; exact E.enc_inj _ _ h2
  | some x => rw [c] at h2; exact E.enc_inj _ _ h2
theorem MapZ.look_ok {f : Int → Option α} (h : MapZ E k w b n f) (hk : P.underlying k = some (.int .i64)) (ht : P.underlying t = some (.map k e)) {z : Int} (hz : WfZ z) :
    (Instr.lookup t (.map (some b)) (.int .i64 z) true).run P w = .ok (.tuple #[E.val ((f z).getD E.zero), .bool (f z).isSome]) w := by
  obtain ⟨D, h, q⟩ := h
  obtain ⟨v, ps, hrun, hv⟩ := h.look_ok (Maps.int_keyed hk) ht (E.zero_run w) (E.R_mk E.zero) (Maps.keyOf_int_mk hk hz)
  obtain ⟨a, rfl, ha⟩ := E.R_inv _ _ hv
  rw [hrun, (q z hz).1]
  have h2 := (q z hz).2 (E.enc E.zero)
  injection ha with ha _
  rw [ha] at h2
  congr 4
  cases c : f z with
  | none => rw [c] at h2; exact congrArg E.val (E.enc_inj _ _ h2)
  | some x => rw [c] at h2; exact congrArg E.val (E.enc_inj _ _ h2)
end

section
variable {P : Program} {k e t : TypeId} {α : Type} {E : EltLaw P e α} {w : World} {b n r : Nat} {f : Int → Option α} {ops : Array Oper} {rest : List Oper} {o : Oper} {a : Act} {Q : Exit → Act → World → Prop}

/-- 'v, ok := m[z]' -/
theorem wp_lookZ_ok (hg : o.guard = none) (m x : Operand) (hop : o.op = Op.lookup t m x true) (hm : a.eval m = .map (some b)) (h : MapZ E k w b n f) (hk : P.underlying k = some (.int .i64)) (ht : P.underlying t = some (.map k e)) (z : Int) (hx : a.eval x = .int .i64 z) (hz : WfZ z)
    (hK : wpList P ops Q rest (a.put o.dst (.tuple #[E.val ((f z).getD E.zero), .bool (f z).isSome])) w) : wpList P ops Q (o :: rest) a w := by
  refine wpList_plain hg fun K' hK' => ?_
  unfold Oper.wp
  simp [execOp, hop, hm, hx, h.look_ok hk ht hz, Result.andThen]
  exact hK' _ _ hK
/-- The same, what comes back written out. -/
theorem wp_lookZ_oks (hg : o.guard = none) (m x : Operand) (hop : o.op = Op.lookup t m x true) (hm : a.eval m = .map (some b)) (h : MapZ E k w b n f) (hk : P.underlying k = some (.int .i64)) (ht : P.underlying t = some (.map k e)) (z : Int) (hx : a.eval x = .int .i64 z) (hz : WfZ z)
    (V : Value) (hV : Value.tuple #[E.val ((f z).getD E.zero), .bool (f z).isSome] = V) (hK : wpList P ops Q rest (a.put o.dst V) w) : wpList P ops Q (o :: rest) a w :=
  wp_lookZ_ok hg m x hop hm h hk ht z hx hz (by rw [hV]; exact hK)
/-- 'm[z] = v' -/
theorem wp_putZ (hg : o.guard = none) (m x v : Operand) (hop : o.op = Op.mapUpdate t m x v) (hm : a.eval m = .map (some b)) (h : MapZ E k w b n f) (hn : n < maxLen) (hk : P.underlying k = some (.int .i64)) (ht : P.underlying t = some (.map k e)) (z : Int) (hx : a.eval x = .int .i64 z) (hz : WfZ z)
    (c : α) (hv : a.eval v = E.val c) (hK : ∀ w', MapZ E k w' b (n + 1) (updZ f z (some c)) → Gr [b] w w' → w'.heap.size = w.heap.size → wpList P ops Q rest (a.put o.dst undef) w') : wpList P ops Q (o :: rest) a w := by
  obtain ⟨D, h, q⟩ := h
  refine wpList_plain hg fun K' hK' => ?_
  obtain ⟨w', hrun, r1, r2⟩ := h.store (Maps.int_keyed hk) ht hn (Maps.keyOf_int_mk hk hz) (E.R_mk c)
  unfold Oper.wp
  simp [execOp, hop, hm, hx, hv, hrun, Result.andThen]
  have hs : w'.heap.size = w.heap.size := by
    obtain ⟨es, cl, es', cl', _, rfl⟩ := r2
    simp [ChangeMaps.setBlock]
  exact hK' _ _ (hK w' ⟨_, r1, q.put h.isMap z c⟩ (Gr.ofGrown r2.grown) hs)
theorem own_tight {D : DataW Unit} {R : Value → Option (DataW Unit × List MemPlace)} {W : World} {m : Nat} (h : W.ownsMap P k R b m D) : W.ownsMap P k R b (Maps.size D) D := by
  obtain ⟨es, clock, h1, h2, h3, h4⟩ := h
  refine ⟨es, clock, h1, h2, ?_, h4⟩
  rw [h4]
  simp [Maps.size, length_sorted]
/-- 'm[z] = v' where z is there. -/
theorem wp_putZ_old (hg : o.guard = none) (m x v : Operand) (hop : o.op = Op.mapUpdate t m x v) (hm : a.eval m = .map (some b)) (h : MapZ E k w b n f) (hn : n < maxLen) (hk : P.underlying k = some (.int .i64)) (ht : P.underlying t = some (.map k e)) (z : Int) (hx : a.eval x = .int .i64 z) (hz : WfZ z)
    (c : α) (hv : a.eval v = E.val c) (hold : (f z).isSome = true) (hK : ∀ w', MapZ E k w' b n (updZ f z (some c)) → Gr [b] w w' → w'.heap.size = w.heap.size → wpList P ops Q rest (a.put o.dst undef) w') : wpList P ops Q (o :: rest) a w := by
  obtain ⟨D, h, q⟩ := h
  refine wpList_plain hg fun K' hK' => ?_
  obtain ⟨w', hrun, r1, r2⟩ := h.store (Maps.int_keyed hk) ht hn (Maps.keyOf_int_mk hk hz) (E.R_mk c)
  unfold Oper.wp
  simp [execOp, hop, hm, hx, hv, hrun, Result.andThen]
  have hs : w'.heap.size = w.heap.size := by
    obtain ⟨es, cl, es', cl', _, rfl⟩ := r2
    simp [ChangeMaps.setBlock]
  have r3 := own_tight r1
  rw [Maps.size_put (h.tidy (Maps.int_keyed hk)), (q z hz).1, hold] at r3
  exact hK' _ _ (hK w' ⟨_, r3.mono h.size_le, q.put h.isMap z c⟩ (Gr.ofGrown r2.grown) hs)
/-- 'delete(m, z)' -/
theorem wp_delZ (hg : o.guard = none) (m x : Operand) (hop : o.op = Op.call { callee := Callee.builtin Builtin.delete, args := #[m, x], argTypes := #[t, k] }) (hm : a.eval m = .map (some b)) (h : MapZ E k w b n f) (hk : P.underlying k = some (.int .i64)) (ht : P.underlying t = some (.map k e)) (z : Int) (hx : a.eval x = .int .i64 z) (hz : WfZ z)
    (hK : ∀ w', MapZ E k w' b n (updZ f z none) → Gr [b] w w' → w'.heap.size = w.heap.size → wpList P ops Q rest (a.put o.dst (.tuple #[])) w') : wpList P ops Q (o :: rest) a w := by
  obtain ⟨D, h, q⟩ := h
  refine wpList_plain hg fun K' hK' => ?_
  obtain ⟨w', hrun, r1, r2⟩ := h.drop (Maps.int_keyed hk) ht (Maps.keyOf_int_mk hk hz) o.type
  unfold Oper.wp
  simp [execOp, hop, resolve, invoke, builtin, hm, hx, hrun, Result.andThen]
  have hs : w'.heap.size = w.heap.size := by
    obtain ⟨es, cl, es', cl', _, rfl⟩ := r2
    simp [ChangeMaps.setBlock]
  exact hK' _ _ (hK w' ⟨_, r1, q.del z⟩ (Gr.ofGrown r2.grown) hs)

/-! ### range -/
def RanZ (E : EltLaw P e α) (k : TypeId) (w : World) (b r n : Nat) (f : Int → Option α) (left : Int → Bool) (cnt : Nat) : Prop :=
  ∃ D L, w.ranges P k E.R b r n D L cnt ∧ MIs E D f ∧ ∀ z, WfZ z → L (.int .i64 z) = left z
theorem RanZ.map {left : Int → Bool} {cnt : Nat} (h : RanZ E k w b r n f left cnt) : MapZ E k w b n f := by obtain ⟨D, L, h, q, _⟩ := h; exact ⟨D, h.owns, q⟩
theorem RanZ.lt {left : Int → Bool} {cnt : Nat} (h : RanZ E k w b r n f left cnt) : r < w.heap.size := by obtain ⟨D, L, h, _⟩ := h; exact h.lt
theorem RanZ.ne {left : Int → Bool} {cnt : Nat} (h : RanZ E k w b r n f left cnt) : r ≠ b := by obtain ⟨D, L, h, _⟩ := h; exact h.ne
theorem RanZ.gr {w' : World} {left : Int → Bool} {cnt : Nat} {bs : List Nat} (h : RanZ E k w b r n f left cnt) (g : Gr bs w w') (h1 : b ∉ bs) (h2 : r ∉ bs) : RanZ E k w' b r n f left cnt := by
  have hb := g.block b h.map.lt h1
  have hr := g.block r h.lt h2
  obtain ⟨D, L, ⟨es, clock, since, seen, c0, q1, q2, q3, q4, q5, q6, q7, q8, q9⟩, rest⟩ := h
  exact ⟨D, L, ⟨es, clock, since, seen, c0, hb.trans q1, q2, q3, q4, hr.trans q5, q6, q7, q8, q9⟩, rest⟩
theorem RanZ.gr0 {w' : World} {left : Int → Bool} {cnt : Nat} (h : RanZ E k w b r n f left cnt) (g : Gr [] w w') : RanZ E k w' b r n f left cnt := h.gr g (by simp) (by simp)
/-- 'range m' -/
theorem wp_rangeZ (hg : o.guard = none) (m : Operand) (hop : o.op = Op.range t m) (hm : a.eval m = .map (some b)) (h : MapZ E k w b n f) (hk : P.underlying k = some (.int .i64)) (ht : P.underlying t = some (.map k e))
    (hK : ∀ w' cnt, RanZ E k w' b w.heap.size n f (fun z => (f z).isSome) cnt → Gr [] w w' → w'.heap.size = w.heap.size + 1 → wpList P ops Q rest (a.put o.dst (.pointer (some ⟨w.heap.size, 0, none⟩))) w') : wpList P ops Q (o :: rest) a w := by
  obtain ⟨D, h, q⟩ := h
  refine wpList_plain hg fun K' hK' => ?_
  obtain ⟨w', hrun, r1, r2, r3⟩ := h.range (Maps.int_keyed hk) ht
  unfold Oper.wp
  simp [execOp, hop, hm, hrun, Result.andThen]
  exact hK' _ _ (hK w' _ ⟨D, _, r1, q, fun z hz => (q z hz).1⟩ (Gr.ofGrown r2) r3)
/-- the next entry -/
theorem wp_nextZ (hg : o.guard = none) (it : Operand) (hop : o.op = Op.next it false) (hit : a.eval it = .pointer (some ⟨r, 0, none⟩)) {left : Int → Bool} {cnt : Nat} (h : RanZ E k w b r n f left cnt) (hk : P.underlying k = some (.int .i64))
    (hDone : (∀ z, WfZ z → left z = false) → wpList P ops Q rest (a.put o.dst (.tuple #[.bool false])) w)
    (hMore : ∀ (z : Int) (c : α) (w' : World) (cnt' : Nat), WfZ z → left z = true → f z = some c → RanZ E k w' b r n f (fun y => left y && decide (y ≠ z)) cnt' → cnt' < cnt → Gr [r] w w' → w'.heap.size = w.heap.size →
      (Instr.entry (.pointer (some ⟨r, 0, none⟩))).run P w' = .ok (.tuple #[.int .i64 z, E.val c]) w' → wpList P ops Q rest (a.put o.dst (.tuple #[.bool true, .int .i64 z, E.val c])) w') :
    wpList P ops Q (o :: rest) a w := by
  obtain ⟨D, L, h, q, hL⟩ := h
  refine wpList_plain hg fun K' hK' => ?_
  unfold Oper.wp
  rcases h.next (Maps.int_keyed hk) o.type with ⟨h0, hl, hrun⟩ | ⟨key, v, kl, y, w', cnt', hkey, hlk, hv, hat, hrun, hrg, hlt, hgr, hsz, hen⟩
  · simp [execOp, hop, hit, hrun, Result.andThen]
    exact hK' _ _ (hDone fun z hz => by rw [← hL z hz]; exact hl _)
  · obtain ⟨z, rfl, rfl, hz⟩ := Maps.keyOf_int_inv hk hkey
    obtain ⟨c, rfl, rfl⟩ := E.R_inv _ _ hv
    have hh : has D (.int .i64 z) = true := Maps.has_true_of_atKey (y := E.enc c) hat
    simp [execOp, hop, hit, hrun, Result.andThen]
    refine hK' _ _ (hMore z c w' cnt' hz (by rw [← hL z hz]; exact hlk) (q.some hz hat hh) ⟨D, _, hrg, q, fun y hy => ?_⟩ hlt (Gr.ofGrown hgr) hsz hen)
    show (L (.int .i64 y) && !(Lit.int .i64 y).sameKey (.int .i64 z)) = _
    rw [hL y hy, key_is]
    simp
end

end Go.Proofs.YtjbhallhmnahbaaGreat

/-
  Maps from int to int whose elements are natural numbers: look-up and store.
-/
namespace Go.Proofs.YtjbhallhmnahbaaGreat
open Go.RowKit

def niEnc (c : Nat) : DataW Unit := .lit (.int .i64 (c : Int))
def niR : Value → Option (DataW Unit × List MemPlace)
  | .int .i64 (.ofNat v) => some (niEnc v, [])
  | _ => none
theorem niR_inv (v : Value) (y : DataW Unit × List MemPlace) (h : niR v = some y) : ∃ a : Nat, v = .int .i64 (a : Int) ∧ y = (niEnc a, []) := by
  unfold niR at h
  split at h
  · rename_i n
    cases h
    exact ⟨n, rfl, rfl⟩
  · cases h
noncomputable def niE : EltLaw Tryz.prog 3 Nat where
  val := fun c => .int .i64 (c : Int)
  enc := niEnc
  R := niR
  R_mk := fun _ => rfl
  R_inv := niR_inv
  enc_inj := by
    intro a b h
    unfold niEnc at h
    simp at h
    omega
  zero := 0
  zero_run := fun _ => by kernel_rfl
theorem MapZ.put_runN {w : World} {b m : Nat} {f : Int → Option Nat} (h : MapZ niE 3 w b m f) (hn : m < maxLen) {z : Int} (hz : WfZ z) (c : Nat) :
    ∃ w', (Instr.mapUpdate 214 (.map (some b)) (.int .i64 z) (.int .i64 (c : Int))).run Tryz.prog w = .ok () w' ∧ MapZ niE 3 w' b (m + 1) (updZ f z (some c)) ∧ Gr [b] w w' ∧ w'.heap.size = w.heap.size := by
  obtain ⟨D, h, q⟩ := h
  obtain ⟨w', hrun, r1, r2⟩ := h.store (t := 214) (Maps.int_keyed Tryz.underlying3) Tryz.underlying214 hn (Maps.keyOf_int_mk Tryz.underlying3 hz) (niE.R_mk c)
  have hs : w'.heap.size = w.heap.size := by
    obtain ⟨es, cl, es', cl', _, rfl⟩ := r2
    simp [ChangeMaps.setBlock]
  exact ⟨w', hrun, ⟨_, r1, q.put h.isMap z c⟩, Gr.ofGrown r2.grown, hs⟩
end Go.Proofs.YtjbhallhmnahbaaGreat
