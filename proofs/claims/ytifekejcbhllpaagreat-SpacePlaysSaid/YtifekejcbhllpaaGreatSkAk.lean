/-
  SkAk: SpB, NiE, SpC, CrcPure, Crc.
-/
import Derived.Test.YtifekejcbhllpaaGreatSkAj
import Derived.Test.YtifekejcbhllpaaGreatSkAa
import Derived.Test.YtifekejcbhllpaaGreatSkAi
import Derived.Test.YtifekejcbhllpaaGreatSkAh
import Derived.WalkKit
import Derived.Deep.QuietTactic
import Derived.BigQuiet

set_option linter.unusedVariables false

/-
  Layer 5: a plan's Size, Check, places.
-/
namespace Go.Proofs.YtifekejcbhllpaaGreat
open Go.RowKit

theorem plan_cells (p : PlanZ) (w : World) : (w.alloc (Obj.cells #[.int .i64 p.a, .int .i64 p.l, .int .i64 p.s] 117)).cell? ⟨w.heap.size, 0, none⟩ = some (.int .i64 p.a) ∧ (w.alloc (Obj.cells #[.int .i64 p.a, .int .i64 p.l, .int .i64 p.s] 117)).cell? ⟨w.heap.size, 1, none⟩ = some (.int .i64 p.l) ∧ (w.alloc (Obj.cells #[.int .i64 p.a, .int .i64 p.l, .int .i64 p.s] 117)).cell? ⟨w.heap.size, 2, none⟩ = some (.int .i64 p.s) := (Holds.new w _ _).three
theorem below_plan (p : PlanZ) (w : World) : Below w.heap.size w (w.alloc (Obj.cells #[.int .i64 p.a, .int .i64 p.l, .int .i64 p.s] 117)) := (Below.refl _ w).alloc (Nat.le_refl _) _
set_option maxHeartbeats 4000000 in
theorem size_any (p : PlanZ) (w : World) : Calls Tryz.prog 52 #[planV p] w fun e w' => e = .returned (.int .i64 (sizeZ p)) ∧ Below w.heap.size w w' := by
  obtain ⟨c0, c1, c2⟩ := plan_cells p w
  have HB := Lib.hid (below_plan p w)
  have HR := Lib.hid (fun W => show Calls Tryz.prog 80 #[.agg #[.int .i64 p.a, .int .i64 p.l, .int .i64 p.s]] W _ from right_any p W)
  obtain ⟨w1, hw1⟩ : ∃ w1, w1 = w.alloc (Obj.cells #[.int .i64 p.a, .int .i64 p.l, .int .i64 p.s] 117) := ⟨_, rfl⟩
  have hl : w.heap.size < w1.heap.size := by rw [hw1, World.size_alloc]; omega
  by_cases hp : okZ p = true
  · rw [hp] at HR
    have hs : sizeZ p = tabZ p + p.l + p.s := by unfold sizeZ; rw [if_pos hp]
    obtain ⟨h1, h2, h3, h4, h5, h6⟩ := (okZ_iff p).1 hp
    have HT := Lib.hid (fun W => show Calls Tryz.prog 81 #[.agg #[.int .i64 p.a, .int .i64 p.l, .int .i64 p.s]] W _ from table_any p hp W)
    have ht : 0 ≤ tabZ p ∧ tabZ p ≤ 8 := by unfold tabZ; omega
    obtain ⟨t, htt⟩ : ∃ t, t = tabZ p := ⟨_, rfl⟩
    rw [← htt] at HT hs ht
    obtain ⟨ht0, ht8⟩ := ht
    have HS := Lib.hid hs
    clear hp hs htt
    unfold planV
    go_enter Tryz.func52, Tryz.ntmps52
    go_wp2_with fail
    rw [← hw1] at c0 c1 c2 HB ⊢
    clear hw1
    refine (HR.out _).mono ?_
    rintro e w2 ⟨rfl, hb2⟩
    replace c0 := (hb2.cell (p := ⟨w.heap.size, 0, none⟩) hl).trans c0
    replace c1 := (hb2.cell (p := ⟨w.heap.size, 1, none⟩) hl).trans c1
    replace c2 := (hb2.cell (p := ⟨w.heap.size, 2, none⟩) hl).trans c2
    have HB2 := Lib.hid (Below_nx HB.out hb2)
    have k0 := kp_cell c0
    have k1 := kp_cell c1
    have k2 := kp_cell c2
    have hne := kp_ne w2
    clear hb2
    have i1 : IntKind.i64.wrap (t + p.l) = t + p.l := IntWalk.i64_in _ (by omega)
    have i2 : IntKind.i64.wrap (t + p.l + p.s) = t + p.l + p.s := IntWalk.i64_in _ (by omega)
    go_wp2_with fail
    refine wp_region_kp (by kernel_rfl) (by kernel_rfl) ?_
    repeat (go_big_quiet_step ((rename_i x; exact kp_call x (HT.out _))))
    with_reducible refine wpQuiet_nil ?_
    rintro _ ⟨y, rfl⟩
    have HBy := Lib.hid (Below_nx HB2.out y.h)
    clear k0 k1 k2 hne
    generalize y.w = w3 at *
    clear y
    go_wp2_with fail
    go_ret
    exact ⟨by rw [HS.out]; rfl, HBy.out⟩
  · have hp : okZ p = false := by simpa using hp
    rw [hp] at HR
    have hs : sizeZ p = 0 := by unfold sizeZ; rw [hp]; rfl
    rw [hs]
    clear hp hs
    unfold planV
    go_enter Tryz.func52, Tryz.ntmps52
    go_wp2_with fail
    refine (HR.out _).mono ?_
    rintro e w2 ⟨rfl, hb2⟩
    have HB2 := Lib.hid (Below_nx HB.out hb2)
    clear hb2
    go_wp2_with fail
    go_ret
    exact ⟨rfl, HB2.out⟩
set_option maxHeartbeats 4000000 in
theorem lineat_any (p : PlanZ) (hp : okZ p = true) (i : Int) (h0 : 0 ≤ i) (h9 : i ≤ 65536) (w : World) : Calls Tryz.prog 105 #[planV p, .int .i64 i] w fun e w' => e = .returned (.int .i64 (p.a + tabZ p + i)) ∧ Below w.heap.size w w' := by
  obtain ⟨c0, c1, c2⟩ := plan_cells p w
  have HB := Lib.hid (below_plan p w)
  obtain ⟨w1, hw1⟩ : ∃ w1, w1 = w.alloc (Obj.cells #[.int .i64 p.a, .int .i64 p.l, .int .i64 p.s] 117) := ⟨_, rfl⟩
  obtain ⟨h1, h2, h3, h4, h5, h6⟩ := (okZ_iff p).1 hp
  have HT := Lib.hid (fun W => show Calls Tryz.prog 81 #[.agg #[.int .i64 p.a, .int .i64 p.l, .int .i64 p.s]] W _ from table_any p hp W)
  have ht : 0 ≤ tabZ p ∧ tabZ p ≤ 8 := by unfold tabZ; omega
  obtain ⟨t, htt⟩ : ∃ t, t = tabZ p := ⟨_, rfl⟩
  rw [← htt] at HT ht ⊢
  obtain ⟨ht0, ht8⟩ := ht
  clear hp htt
  unfold planV
  go_enter Tryz.func105, Tryz.ntmps105
  go_wp2_with fail
  rw [← hw1] at c0 c1 c2 HB ⊢
  clear hw1
  have k0 := kp_cell c0
  have k1 := kp_cell c1
  have k2 := kp_cell c2
  have hne := kp_ne w1
  have i0 : IntKind.i64.wrap (p.a + t) = p.a + t := IntWalk.i64_in _ (by omega)
  have i1 : IntKind.i64.wrap (p.a + t + i) = p.a + t + i := IntWalk.i64_in _ (by omega)
  refine wp_region_kp (by kernel_rfl) (by kernel_rfl) ?_
  repeat (go_big_quiet_step ((rename_i x; exact kp_call x (HT.out _))))
  with_reducible refine wpQuiet_nil ?_
  rintro _ ⟨y, rfl⟩
  have HBy := Lib.hid (Below_nx HB.out y.h)
  clear k0 k1 k2 hne
  generalize y.w = w3 at *
  clear y
  go_wp2_with fail
  go_ret
  exact ⟨rfl, HBy.out⟩
set_option maxHeartbeats 4000000 in
theorem spareat_any (p : PlanZ) (hp : okZ p = true) (k : Int) (h0 : 0 ≤ k) (h9 : k ≤ 65536) (w : World) : Calls Tryz.prog 104 #[planV p, .int .i64 k] w fun e w' => e = .returned (.int .i64 (p.a + tabZ p + p.l + k)) ∧ Below w.heap.size w w' := by
  obtain ⟨c0, c1, c2⟩ := plan_cells p w
  have HB := Lib.hid (below_plan p w)
  obtain ⟨w1, hw1⟩ : ∃ w1, w1 = w.alloc (Obj.cells #[.int .i64 p.a, .int .i64 p.l, .int .i64 p.s] 117) := ⟨_, rfl⟩
  obtain ⟨h1, h2, h3, h4, h5, h6⟩ := (okZ_iff p).1 hp
  have HT := Lib.hid (fun W => show Calls Tryz.prog 81 #[.agg #[.int .i64 p.a, .int .i64 p.l, .int .i64 p.s]] W _ from table_any p hp W)
  have ht : 0 ≤ tabZ p ∧ tabZ p ≤ 8 := by unfold tabZ; omega
  obtain ⟨t, htt⟩ : ∃ t, t = tabZ p := ⟨_, rfl⟩
  rw [← htt] at HT ht ⊢
  obtain ⟨ht0, ht8⟩ := ht
  clear hp htt
  unfold planV
  go_enter Tryz.func104, Tryz.ntmps104
  go_wp2_with fail
  rw [← hw1] at c0 c1 c2 HB ⊢
  clear hw1
  have k0 := kp_cell c0
  have k1 := kp_cell c1
  have k2 := kp_cell c2
  have hne := kp_ne w1
  have i0 : IntKind.i64.wrap (p.a + t) = p.a + t := IntWalk.i64_in _ (by omega)
  have i1 : IntKind.i64.wrap (p.a + t + p.l) = p.a + t + p.l := IntWalk.i64_in _ (by omega)
  have i2 : IntKind.i64.wrap (p.a + t + p.l + k) = p.a + t + p.l + k := IntWalk.i64_in _ (by omega)
  refine wp_region_kp (by kernel_rfl) (by kernel_rfl) ?_
  repeat (go_big_quiet_step ((rename_i x; exact kp_call x (HT.out _))))
  with_reducible refine wpQuiet_nil ?_
  rintro _ ⟨y, rfl⟩
  have HBy := Lib.hid (Below_nx HB.out y.h)
  clear k0 k1 k2 hne
  generalize y.w = w3 at *
  clear y
  go_wp2_with fail
  go_ret
  exact ⟨rfl, HBy.out⟩
set_option maxHeartbeats 4000000 in
theorem check_any (p : PlanZ) (n : Int) (w : World) : Calls Tryz.prog 79 #[planV p, .int .i64 n] w fun e w' => e = .returned (.int .i64 (checkZ p n)) ∧ Below w.heap.size w w' := by
  obtain ⟨c0, c1, c2⟩ := plan_cells p w
  have HB := Lib.hid (below_plan p w)
  have HR := Lib.hid (fun W => show Calls Tryz.prog 80 #[.agg #[.int .i64 p.a, .int .i64 p.l, .int .i64 p.s]] W _ from right_any p W)
  obtain ⟨w1, hw1⟩ : ∃ w1, w1 = w.alloc (Obj.cells #[.int .i64 p.a, .int .i64 p.l, .int .i64 p.s] 117) := ⟨_, rfl⟩
  have hl : w.heap.size < w1.heap.size := by rw [hw1, World.size_alloc]; omega
  by_cases hp : okZ p = true
  · rw [hp] at HR
    obtain ⟨h1, h2, h3, h4, h5, h6⟩ := (okZ_iff p).1 hp
    have HT := Lib.hid (fun W => show Calls Tryz.prog 52 #[.agg #[.int .i64 p.a, .int .i64 p.l, .int .i64 p.s]] W _ from size_any p W)
    have ht : 0 ≤ sizeZ p ∧ sizeZ p ≤ 2000 := by unfold sizeZ tabZ; rw [if_pos hp]; omega
    have hc : checkZ p n = if n < p.a + sizeZ p then 3 else 0 := by unfold checkZ; rw [if_pos hp]
    obtain ⟨t, htt⟩ : ∃ t, t = sizeZ p := ⟨_, rfl⟩
    rw [← htt] at HT ht hc
    obtain ⟨ht0, ht8⟩ := ht
    have HC := Lib.hid hc
    clear hp htt hc
    have i1 : IntKind.i64.wrap (p.a + t) = p.a + t := IntWalk.i64_in _ (by omega)
    unfold planV
    by_cases hlt : n < p.a + t
    · have HC2 := Lib.hid (show checkZ p n = 3 by rw [HC.out, if_pos hlt])
      have d1 : decide (n < p.a + t) = true := decide_eq_true hlt
      clear hlt
      go_enter Tryz.func79, Tryz.ntmps79
      go_wp2_with fail
      rw [← hw1] at c0 c1 c2 HB ⊢
      clear hw1
      refine (HR.out _).mono ?_
      rintro e w2 ⟨rfl, hb2⟩
      replace c0 := (hb2.cell (p := ⟨w.heap.size, 0, none⟩) hl).trans c0
      replace c1 := (hb2.cell (p := ⟨w.heap.size, 1, none⟩) hl).trans c1
      replace c2 := (hb2.cell (p := ⟨w.heap.size, 2, none⟩) hl).trans c2
      have HB2 := Lib.hid (Below_nx HB.out hb2)
      have k0 := kp_cell c0
      have k1 := kp_cell c1
      have k2 := kp_cell c2
      have hne := kp_ne w2
      clear hb2
      go_wp2_with fail
      refine wp_region_kp (by kernel_rfl) (by kernel_rfl) ?_
      repeat (go_big_quiet_step ((rename_i x; exact kp_call x (HT.out _))))
      with_reducible refine wpQuiet_nil ?_
      rintro _ ⟨y, rfl⟩
      have HBy := Lib.hid (Below_nx HB2.out y.h)
      clear k0 k1 k2 hne
      generalize y.w = w3 at *
      clear y
      go_wp2_with fail
      go_ret
      exact ⟨by rw [HC2.out]; rfl, HBy.out⟩
    · have HC2 := Lib.hid (show checkZ p n = 0 by rw [HC.out, if_neg hlt])
      have d1 : decide (n < p.a + t) = false := decide_eq_false hlt
      clear hlt
      go_enter Tryz.func79, Tryz.ntmps79
      go_wp2_with fail
      rw [← hw1] at c0 c1 c2 HB ⊢
      clear hw1
      refine (HR.out _).mono ?_
      rintro e w2 ⟨rfl, hb2⟩
      replace c0 := (hb2.cell (p := ⟨w.heap.size, 0, none⟩) hl).trans c0
      replace c1 := (hb2.cell (p := ⟨w.heap.size, 1, none⟩) hl).trans c1
      replace c2 := (hb2.cell (p := ⟨w.heap.size, 2, none⟩) hl).trans c2
      have HB2 := Lib.hid (Below_nx HB.out hb2)
      have k0 := kp_cell c0
      have k1 := kp_cell c1
      have k2 := kp_cell c2
      have hne := kp_ne w2
      clear hb2
      go_wp2_with fail
      refine wp_region_kp (by kernel_rfl) (by kernel_rfl) ?_
      repeat (go_big_quiet_step ((rename_i x; exact kp_call x (HT.out _))))
      with_reducible refine wpQuiet_nil ?_
      rintro _ ⟨y, rfl⟩
      have HBy := Lib.hid (Below_nx HB2.out y.h)
      clear k0 k1 k2 hne
      generalize y.w = w3 at *
      clear y
      go_wp2_with fail
      go_ret
      exact ⟨by rw [HC2.out]; rfl, HBy.out⟩
  · have hp : okZ p = false := by simpa using hp
    rw [hp] at HR
    have hs : checkZ p n = 2 := by unfold checkZ; rw [hp]; rfl
    rw [hs]
    clear hp hs
    unfold planV
    go_enter Tryz.func79, Tryz.ntmps79
    go_wp2_with fail
    refine (HR.out _).mono ?_
    rintro e w2 ⟨rfl, hb2⟩
    have HB2 := Lib.hid (Below_nx HB.out hb2)
    clear hb2
    go_wp2_with fail
    go_ret
    exact ⟨rfl, HB2.out⟩
end Go.Proofs.YtifekejcbhllpaaGreat

/-
  Maps from int to int whose elements are natural numbers: look-up and store.
-/
namespace Go.Proofs.YtifekejcbhllpaaGreat
open Go.RowKit

def niEnc (c : Nat) : DataW Unit := .lit (.int .i64 (c : Int))
def niR : Value → Option (DataW Unit × List MemPlace)
  | .int .i64 (.ofNat v) => some (niEnc v, [])
  | _ => none
theorem niR_inv (v : Value) (y : DataW Unit × List MemPlace) (h : niR v = some y) : ∃ a : Nat, v = .int .i64 (a : Int) ∧ y = (niEnc a, []) := by
  unfold niR at h
  split at h
  · rename_i n
    cases h
    exact ⟨n, rfl, rfl⟩
  · cases h
noncomputable def niE : EltLaw Tryz.prog 3 Nat where
  val := fun c => .int .i64 (c : Int)
  enc := niEnc
  R := niR
  R_mk := fun _ => rfl
  R_inv := niR_inv
  enc_inj := by
    intro a b h
    unfold niEnc at h
    simp at h
    omega
  zero := 0
  zero_run := fun _ => by kernel_rfl
theorem MapZ.put_runN {w : World} {b m : Nat} {f : Int → Option Nat} (h : MapZ niE 3 w b m f) (hn : m < maxLen) {z : Int} (hz : WfZ z) (c : Nat) :
    ∃ w', (Instr.mapUpdate 173 (.map (some b)) (.int .i64 z) (.int .i64 (c : Int))).run Tryz.prog w = .ok () w' ∧ MapZ niE 3 w' b (m + 1) (updZ f z (some c)) ∧ Gr [b] w w' ∧ w'.heap.size = w.heap.size := by
  obtain ⟨D, h, q⟩ := h
  obtain ⟨w', hrun, r1, r2⟩ := h.store (t := 173) (Maps.int_keyed Tryz.underlying3) Tryz.underlying173 hn (Maps.keyOf_int_mk Tryz.underlying3 hz) (niE.R_mk c)
  have hs : w'.heap.size = w.heap.size := by
    obtain ⟨es, cl, es', cl', _, rfl⟩ := r2
    simp [ChangeMaps.setBlock]
  exact ⟨w', hrun, ⟨_, r1, q.put h.isMap z c⟩, Gr.ofGrown r2.grown, hs⟩
end Go.Proofs.YtifekejcbhllpaaGreat

/-
  Layer 5: a bank in memory; Lines, Left, Where, Read.
-/
namespace Go.Proofs.YtifekejcbhllpaaGreat
open Go.RowKit

/-- A bank: how many spares are used, which stands for a line. -/
structure BkS where
  used : Nat
  wh : Int → Option Nat
structure BkA where
  b : Nat
  bm : Nat
def BkA.all (q : BkA) : List Nat := [q.b, q.bm]
structure BkIs (w : World) (q : BkA) (a : DevA) (p : PlanZ) (B : BkS) (m : Nat) : Prop where
  head : Holds w q.b #[.pointer (some ⟨a.bd, 0, none⟩), .int .i64 p.a, .int .i64 p.l, .int .i64 p.s, .int .i64 (B.used : Int), .map (some q.bm)] 175
  map : MapZ niE 3 w q.bm m B.wh
  ok : okZ p = true
  us : (B.used : Int) ≤ p.s
  rg : ∀ x k, B.wh x = some k → ((k : Nat) : Int) < p.s
  ne : q.b ≠ q.bm
  sep : ∀ b ∈ q.all, b ∉ a.all
section
variable {w w' : World} {q : BkA} {a : DevA} {p : PlanZ} {B : BkS} {m : Nat}
theorem BkIs.gr {bs : List Nat} (h : BkIs w q a p B m) (g : Gr bs w w') (hn : ∀ b ∈ q.all, b ∉ bs) : BkIs w' q a p B m :=
  ⟨h.head.gr g (hn _ (by simp [BkA.all])), h.map.gr g (hn _ (by simp [BkA.all])), h.ok, h.us, h.rg, h.ne, h.sep⟩
theorem BkIs.gr0 (h : BkIs w q a p B m) (g : Gr [] w w') : BkIs w' q a p B m := h.gr g (by simp)
theorem BkIs.grD (h : BkIs w q a p B m) (g : Gr a.all w w') : BkIs w' q a p B m := h.gr g h.sep
theorem BkIs.lt (h : BkIs w q a p B m) : ∀ b ∈ q.all, b < w.heap.size := by
  intro b hb
  simp only [BkA.all, List.mem_cons, List.not_mem_nil, or_false] at hb
  rcases hb with rfl | rfl
  · exact h.head.lt
  · exact h.map.lt
theorem BkIs.c0 (h : BkIs w q a p B m) : w.cell? ⟨q.b, 0, none⟩ = some (.pointer (some ⟨a.bd, 0, none⟩)) := h.head.cell 0
theorem BkIs.c1 (h : BkIs w q a p B m) : w.cell? ⟨q.b, 1, none⟩ = some (.int .i64 p.a) := h.head.cell 1
theorem BkIs.c2 (h : BkIs w q a p B m) : w.cell? ⟨q.b, 2, none⟩ = some (.int .i64 p.l) := h.head.cell 2
theorem BkIs.c3 (h : BkIs w q a p B m) : w.cell? ⟨q.b, 3, none⟩ = some (.int .i64 p.s) := h.head.cell 3
theorem BkIs.c4 (h : BkIs w q a p B m) : w.cell? ⟨q.b, 4, none⟩ = some (.int .i64 (B.used : Int)) := h.head.cell 4
theorem BkIs.c5 (h : BkIs w q a p B m) : w.cell? ⟨q.b, 5, none⟩ = some (.map (some q.bm)) := h.head.cell 5
end
/-- The places of a plan's lines and spares. -/
def lineP (p : PlanZ) (i : Int) : Int := p.a + tabZ p + i
def spareP (p : PlanZ) (k : Int) : Int := p.a + tabZ p + p.l + k
def placeP (p : PlanZ) (B : BkS) (i : Int) : Int := match B.wh i with | some k => spareP p k | none => lineP p i
def inP (p : PlanZ) (i : Int) : Prop := 0 ≤ i ∧ i < p.l
instance (p : PlanZ) (i : Int) : Decidable (inP p i) := by unfold inP; infer_instance
section
variable {w : World} {q : BkA} {a : DevA} {p : PlanZ} {B : BkS} {m : Nat}
theorem left_at (h : BkIs w q a p B m) : Calls Tryz.prog 171 #[.pointer (some ⟨q.b, 0, none⟩)] w fun e w' => e = .returned (.int .i64 (p.s - (B.used : Int))) ∧ Gr [] w w' := by
  have c3 := h.c3
  have c4 := h.c4
  obtain ⟨h1, h2, h3, h4, h5, h6⟩ := (okZ_iff _).1 h.ok
  have hu := h.us
  have i1 : IntKind.i64.wrap (p.s - (B.used : Int)) = p.s - (B.used : Int) := IntWalk.i64_in _ (by omega)
  clear h h1 h2 h3 h4 h5 h6 hu
  go_enter Tryz.func171, Tryz.ntmps171
  go_wp2_with fail
  go_quiet (fail)
  go_wp2_with fail
  go_ret
  exact ⟨rfl, (Gr.refl [] w).drewN _⟩
theorem where_out (i : Int) (h : BkIs w q a p B m) (hi : ¬ inP p i) : Calls Tryz.prog 74 #[.pointer (some ⟨q.b, 0, none⟩), .int .i64 i] w fun e w' => e = .returned (.tuple #[.int .i64 0, .int .i64 3]) ∧ w' = w := by
  have c2 := h.c2
  clear h
  by_cases h0 : i < 0
  · clear hi
    go_enter Tryz.func74, Tryz.ntmps74
    go_wp2_with fail
    go_ret2
    exact ⟨rfl, rfl⟩
  · have h1 : p.l ≤ i := by unfold inP at hi; omega
    clear hi
    go_enter Tryz.func74, Tryz.ntmps74
    go_wp2_with fail
    go_ret2
    exact ⟨rfl, rfl⟩
set_option maxHeartbeats 2000000 in
set_option maxRecDepth 100000 in
theorem where_in (i : Int) (h : BkIs w q a p B m) (hi : inP p i) : Calls Tryz.prog 74 #[.pointer (some ⟨q.b, 0, none⟩), .int .i64 i] w fun e w' => e = .returned (.tuple #[.int .i64 (placeP p B i), .int .i64 0]) ∧ Gr [] w w' := by
  obtain ⟨h1, h2, h3, h4, h5, h6⟩ := (okZ_iff _).1 h.ok
  have c1 := h.c1
  have c2 := h.c2
  have c3 := h.c3
  have c5 := h.c5
  obtain ⟨i0, i1⟩ : 0 ≤ i ∧ i < p.l := hi
  have hwf : WfZ i := wfZ (by omega) (by omega)
  have HLK := Lib.hid (h.map.look_ok Tryz.underlying3 (show Tryz.prog.underlying 173 = some (.map 3 3) from Tryz.underlying173) hwf)
  cases e : B.wh i with
  | some k =>
    have hk := h.rg i k e
    have HP := Lib.hid (show placeP p B i = spareP p k by unfold placeP; rw [e])
    have HS := Lib.hid (show Calls Tryz.prog 104 #[.agg #[.int .i64 p.a, .int .i64 p.l, .int .i64 p.s], .int .i64 (k : Int)] w _ from spareat_any p h.ok (k : Int) (by omega) (by omega) w)
    have hlk := HLK.out
    rw [e] at hlk
    replace hlk : _ = Result.ok (Value.tuple #[.int .i64 (k : Int), .bool true]) w := hlk
    clear h HLK e hwf hk
    go_enter Tryz.func74, Tryz.ntmps74
    go_wp2_with fail
    refine HS.out.mono ?_
    rintro e w2 ⟨rfl, hb⟩
    have HG := Lib.hid (Gr.ofBelow (cs := []) hb)
    clear hb
    go_wp2_with fail
    go_ret2
    exact ⟨by rw [HP.out]; rfl, HG.out⟩
  | none =>
    have HP := Lib.hid (show placeP p B i = lineP p i by unfold placeP; rw [e])
    have HS := Lib.hid (show Calls Tryz.prog 105 #[.agg #[.int .i64 p.a, .int .i64 p.l, .int .i64 p.s], .int .i64 i] w _ from lineat_any p h.ok i (by omega) (by omega) w)
    have hlk := HLK.out
    rw [e] at hlk
    replace hlk : _ = Result.ok (Value.tuple #[.int .i64 0, .bool false]) w := hlk
    clear h HLK e hwf
    go_enter Tryz.func74, Tryz.ntmps74
    go_wp2_with fail
    refine HS.out.mono ?_
    rintro e w2 ⟨rfl, hb⟩
    have HG := Lib.hid (Gr.ofBelow (cs := []) hb)
    clear hb
    go_wp2_with fail
    go_ret2
    exact ⟨by rw [HP.out]; rfl, HG.out⟩
/-- Where a line's place is on the device. -/
theorem place_in {n : Nat} (h : BkIs w q a p B m) (hn : p.a + sizeZ p ≤ (n : Int)) {i : Int} (hi : inP p i) : ∃ l : Nat, placeP p B i = (l : Int) ∧ l < n := by
  obtain ⟨h1, h2, h3, h4, h5, h6⟩ := (okZ_iff _).1 h.ok
  obtain ⟨i0, i1⟩ : 0 ≤ i ∧ i < p.l := hi
  have hs : sizeZ p = tabZ p + p.l + p.s := by unfold sizeZ; rw [if_pos h.ok]
  have ht : 0 ≤ tabZ p := by unfold tabZ; omega
  unfold placeP
  cases e : B.wh i with
  | some k =>
    have := h.rg i k e
    exact ⟨(spareP p k).toNat, by simp only; unfold spareP; omega, by unfold spareP; omega⟩
  | none => exact ⟨(lineP p i).toNat, by simp only; unfold lineP; omega, by unfold lineP; omega⟩
def readR (D : DevS) (p : PlanZ) (B : BkS) (i : Int) : ByteArray × Int := if inP p i then (if D.off then (⟨#[]⟩, 6) else (⟨(getT D (placeP p B i).toNat).toArray⟩, 0)) else (⟨#[]⟩, 3)
theorem read_any {D : DevS} (i : Int) (h : BkIs w q a p B m) (hd : DevIs w a D) (hn : p.a + sizeZ p ≤ (D.n : Int)) :
    Calls Tryz.prog 122 #[.pointer (some ⟨q.b, 0, none⟩), .int .i64 i] w fun e w' => e = .returned (.tuple #[.string (readR D p B i).1, .int .i64 (readR D p B i).2]) ∧ Gr [] w w' := by
  have c0 := h.c0
  by_cases hi : inP p i
  · have HW := Lib.hid (where_in i h hi)
    obtain ⟨l, hl, hln⟩ := place_in h hn hi
    rw [hl] at HW
    have HB := Lib.hid h
    by_cases ho : D.off = true
    · have hr : readR D p B i = (⟨#[]⟩, 6) := by unfold readR; rw [if_pos hi, if_pos ho]
      rw [hr]
      have he : reachE D (isLine D (l : Int)) = 6 := by unfold reachE; rw [if_pos ho]
      have HGt := Lib.hid (fun W (hd : DevIs W a D) => get_err a D (l : Int) W hd (by rw [he]; decide))
      rw [he] at HGt
      have HD := Lib.hid hd
      clear hr h hd hn hi hl ho he
      go_enter Tryz.func122, Tryz.ntmps122
      go_wp2_with fail
      refine HW.out.mono ?_
      rintro e w2 ⟨rfl, g2⟩
      have HG := Lib.hid g2
      have c0 := (HB.out.gr0 g2).c0
      clear g2
      go_wp2_with fail
      refine (HGt.out _ (HD.out.gr0 HG.out)).mono ?_
      rintro e w3 ⟨rfl, rfl⟩
      go_wp2_with fail
      go_ret2
      exact ⟨rfl, HG.out⟩
    · have ho : D.off = false := by simpa using ho
      have hr : readR D p B i = (⟨(getT D l).toArray⟩, 0) := by unfold readR; rw [if_pos hi, ho, hl]; simp
      rw [hr]
      have HGt := Lib.hid (fun W (hd : DevIs W a D) => get_yes a D l W hd hln ho)
      have HD := Lib.hid hd
      clear hr h hd hn hi hl ho hln
      go_enter Tryz.func122, Tryz.ntmps122
      go_wp2_with fail
      refine HW.out.mono ?_
      rintro e w2 ⟨rfl, g2⟩
      have HG := Lib.hid g2
      have c0 := (HB.out.gr0 g2).c0
      clear g2
      go_wp2_with fail
      refine (HGt.out _ (HD.out.gr0 HG.out)).mono ?_
      rintro e w3 ⟨rfl, g3⟩
      have HG3 := Lib.hid g3
      clear g3
      go_wp2_with fail
      go_ret2
      exact ⟨rfl, HG.out.next0 HG3.out⟩
  · have hr : readR D p B i = (⟨#[]⟩, 3) := by unfold readR; rw [if_neg hi]
    rw [hr]
    have HW := Lib.hid (where_out i h hi)
    clear h hd hn hr hi
    go_enter Tryz.func122, Tryz.ntmps122
    go_wp2_with fail
    refine HW.out.mono ?_
    rintro e w2 ⟨rfl, hw⟩
    rw [hw]
    go_wp2_with fail
    go_ret2
    exact ⟨rfl, Gr.refl _ _⟩
end
end Go.Proofs.YtifekejcbhllpaaGreat

/-
  Plain lemmas on the two checksums, without any program: the register as a bit vector, and as a list of bits.
-/
namespace Go.Proofs.YtifekejcbhllpaaGreat

/-! ### The registers, one bit out and eight -/
def s16 (x : BitVec 16) : BitVec 16 := (x <<< 1) ^^^ (if x.msb then 0x1021#16 else 0#16)
def s32 (x : BitVec 32) : BitVec 32 := (x >>> 1) ^^^ (if x.getLsbD 0 then 0x82F63B78#32 else 0#32)
def b16 (x : BitVec 16) (b : UInt8) : BitVec 16 := s16 (s16 (s16 (s16 (s16 (s16 (s16 (s16 (x ^^^ (BitVec.ofNat 16 b.toNat <<< 8)))))))))
def b32 (x : BitVec 32) (b : UInt8) : BitVec 32 := s32 (s32 (s32 (s32 (s32 (s32 (s32 (s32 (x ^^^ BitVec.ofNat 32 b.toNat))))))))
def c16 (l : List UInt8) (x : BitVec 16) : BitVec 16 := l.foldl b16 x
def c32 (l : List UInt8) (x : BitVec 32) : BitVec 32 := l.foldl b32 x
def sum16 (l : List UInt8) : BitVec 16 := c16 l 0xFFFF#16
def sum32 (l : List UInt8) : BitVec 32 := ~~~ (c32 l 0xFFFFFFFF#32)

/-! ### Linear -/
/-! ### One to one -/
end Go.Proofs.YtifekejcbhllpaaGreat

/-
  Contracts of package crc's functions.
-/
namespace Go.Proofs.YtifekejcbhllpaaGreat
open Go.RowKit

def n16 (x : BitVec 16) : Nat := x.toNat
def n32 (x : BitVec 32) : Nat := x.toNat
theorem n16_lt (x : BitVec 16) : n16 x < 65536 := x.isLt
theorem n32_lt (x : BitVec 32) : n32 x < 4294967296 := x.isLt

theorem s16_walk (x : BitVec 16) : bits .xor .u16 (IntKind.u16.wrap ((n16 x : Int) * 2)) (IntKind.u16.wrap ((n16 x : Int) / 32768 * 4129)) = (n16 (s16 x) : Int) := by
  have hx : x.toNat < 65536 := x.isLt
  have e1 : IntKind.u16.wrap ((n16 x : Int) * 2) = ((x <<< 1).toNat : Int) := by
    rw [IntKind.wrap_u16]
    simp only [n16, BitVec.toNat_shiftLeft, Nat.shiftLeft_eq]
    omega
  have e2 : IntKind.u16.wrap ((n16 x : Int) / 32768 * 4129) = ((if x.msb then 0x1021#16 else 0#16).toNat : Int) := by
    rw [IntKind.wrap_u16]
    have hm : x.msb = decide (32768 ≤ x.toNat) := by rw [BitVec.msb_eq_decide]
    rw [hm]
    unfold n16
    by_cases h : 32768 ≤ x.toNat
    · simp only [h, decide_true, if_true]
      have : (x.toNat : Int) / 32768 = 1 := by omega
      rw [this]; rfl
    · simp only [h, decide_false]
      have : (x.toNat : Int) / 32768 = 0 := by omega
      rw [this]; rfl
  rw [e1, e2, u16_xor_nat _ _ (by have := (x <<< 1).isLt; omega) (by have := (if x.msb then 0x1021#16 else 0#16).isLt; omega), ← BitVec.toNat_xor]
  rfl
theorem b16_walk (x : BitVec 16) (b : UInt8) : bits .xor .u16 (n16 x : Int) (IntKind.u16.wrap (IntKind.u16.wrap (b.toNat : Int) * 256)) = (n16 (x ^^^ (BitVec.ofNat 16 b.toNat <<< 8)) : Int) := by
  have hb : b.toNat < 256 := b.toNat_lt
  have e : IntKind.u16.wrap (IntKind.u16.wrap (b.toNat : Int) * 256) = ((BitVec.ofNat 16 b.toNat <<< 8).toNat : Int) := by
    rw [IntKind.wrap_u16, IntKind.wrap_u16]
    simp only [BitVec.toNat_shiftLeft, BitVec.toNat_ofNat, Nat.shiftLeft_eq]
    omega
  rw [e, u16_xor_nat _ _ (n16_lt x) (by have := (BitVec.ofNat 16 b.toNat <<< 8).isLt; omega)]
  unfold n16
  rw [← BitVec.toNat_xor]

theorem c16_take (s : ByteArray) (k : Nat) (h : k < s.size) (x : BitVec 16) : c16 (s.data.toList.take (k + 1)) x = b16 (c16 (s.data.toList.take k) x) s[k] := by
  have hl : k < s.data.toList.length := by simpa using h
  unfold c16
  rw [List.take_succ_eq_append_getElem hl, List.foldl_append]
  rfl

set_option maxHeartbeats 1000000 in
theorem sum16_any (s : ByteArray) (w : World) (hs : s.size ≤ maxLen) :
    Calls Tryz.prog 150 #[.string s] w fun e w' => e = .returned (.int .u16 (n16 (sum16 s.data.toList) : Nat)) ∧ w = w' := by
  unfold maxLen at hs
  have S := s16_walk
  go_enter Tryz.func150, Tryz.ntmps150
  go_wp2
  go_loop [3, 8] (fun n i => ∃ k : Nat, k ≤ s.size ∧ i = .int .i64 k ∧ n = .int .u16 (n16 (c16 (s.data.toList.take k) 0xFFFF#16) : Nat)) (fun _ i => s.size - (intOf i).toNat)
  case atStart => exact ⟨0, by omega, rfl, rfl⟩
  case round =>
    obtain ⟨k, hk, rfl, rfl⟩ := hrel
    by_cases hlt : k < s.size
    · have HC := Lib.hid (c16_take s k hlt 0xFFFF#16)
      have B := b16_walk
      generalize c16 (List.take k s.data.toList) 0xFFFF#16 = x at *
      go_wp2
      go_rounds 9
      exact ⟨⟨k + 1, by omega, by go_num, by rw [HC.out]; rfl⟩, by simp [intOf]; omega⟩
    · have hl : s.data.toList.length = s.size := by simp
      have hf : c16 (s.data.toList.take k) 0xFFFF#16 = sum16 s.data.toList := by
        rw [List.take_of_length_le (by omega)]; rfl
      rw [hf]
      clear hf
      go_wp2
      go_ret
      exact ⟨rfl, rfl⟩

theorem s32_walk (x : BitVec 32) : bits .xor .u32 ((n32 x : Int) / 2) (bits .and .u32 (n32 x : Int) 1 * 2197175160 % 4294967296) = (n32 (s32 x) : Int) := by
  have hx : x.toNat < 4294967296 := x.isLt
  have e1 : ((n32 x : Int) / (2 : Int)) = ((x >>> 1).toNat : Int) := by
    simp only [n32, BitVec.toNat_ushiftRight, Nat.shiftRight_eq_div_pow]
    omega
  have e2 : bits .and .u32 (n32 x : Int) 1 * 2197175160 % 4294967296 = ((if x.getLsbD 0 then 0x82F63B78#32 else 0#32).toNat : Int) := by
    have a := u32_and_nat (n32 x) 1 hx (by omega)
    have a' : bits .and .u32 (n32 x : Int) 1 = ((n32 x % 2 : Nat) : Int) := by
      rw [show (1 : Int) = ((1 : Nat) : Int) from rfl, a, nat_mask1]
    rw [a']
    have hm : x.getLsbD 0 = decide (x.toNat % 2 = 1) := by
      rw [BitVec.getLsbD, Nat.testBit_zero]
    rw [hm]
    unfold n32
    by_cases h : x.toNat % 2 = 1
    · simp only [h, decide_true, if_true]; rfl
    · have h0 : x.toNat % 2 = 0 := by omega
      simp only [h0]; rfl
  rw [e1, e2, u32_xor_nat _ _ (by have := (x >>> 1).isLt; omega) (by have := (if x.getLsbD 0 then 0x82F63B78#32 else 0#32).isLt; omega), ← BitVec.toNat_xor]
  rfl
theorem b32_walk (x : BitVec 32) (b : UInt8) : bits .xor .u32 (n32 x : Int) ((b.toNat : Int) % 4294967296) = (n32 (x ^^^ BitVec.ofNat 32 b.toNat) : Int) := by
  have hb : b.toNat < 256 := b.toNat_lt
  have e : (b.toNat : Int) % 4294967296 = ((BitVec.ofNat 32 b.toNat).toNat : Int) := by
    simp only [BitVec.toNat_ofNat]
    omega
  rw [e, u32_xor_nat _ _ (n32_lt x) (by have := (BitVec.ofNat 32 b.toNat).isLt; omega)]
  unfold n32
  rw [← BitVec.toNat_xor]

theorem c32_take (s : ByteArray) (k : Nat) (h : k < s.size) (x : BitVec 32) : c32 (s.data.toList.take (k + 1)) x = b32 (c32 (s.data.toList.take k) x) s[k] := by
  have hl : k < s.data.toList.length := by simpa using h
  unfold c32
  rw [List.take_succ_eq_append_getElem hl, List.foldl_append]
  rfl

theorem un32 (y : BitVec 32) : Op.unary .xor (.int .u32 (n32 (~~~ y) : Int)) = pure (.int .u32 (n32 y : Int)) := by
  show pure (Value.int .u32 (bits .xor .u32 IntKind.u32.max (n32 (~~~ y) : Int))) = _
  have e : IntKind.u32.max = (((BitVec.allOnes 32).toNat : Nat) : Int) := by decide
  rw [e, u32_xor_nat _ _ (BitVec.allOnes 32).isLt (n32_lt _)]
  unfold n32
  rw [← BitVec.toNat_xor, BitVec.allOnes_xor, BitVec.not_not]
theorem un16 (y : BitVec 16) : Op.unary .xor (.int .u16 (n16 y : Int)) = pure (.int .u16 (n16 (~~~ y) : Int)) := by
  show pure (Value.int .u16 (bits .xor .u16 IntKind.u16.max (n16 y : Int))) = _
  have e : IntKind.u16.max = (((BitVec.allOnes 16).toNat : Nat) : Int) := by decide
  rw [e, u16_xor_nat _ _ (BitVec.allOnes 16).isLt (n16_lt _)]
  unfold n16
  rw [← BitVec.toNat_xor, BitVec.allOnes_xor]
set_option maxHeartbeats 1000000 in
theorem sum32_any (s : ByteArray) (w : World) (hs : s.size ≤ maxLen) :
    Calls Tryz.prog 119 #[.string s] w fun e w' => e = .returned (.int .u32 (n32 (sum32 s.data.toList) : Nat)) ∧ w = w' := by
  unfold maxLen at hs
  have S := s32_walk
  go_enter Tryz.func119, Tryz.ntmps119
  go_wp2
  go_loop [3, 8] (fun n i => ∃ k : Nat, k ≤ s.size ∧ i = .int .i64 k ∧ n = .int .u32 (n32 (c32 (s.data.toList.take k) 0xFFFFFFFF#32) : Nat)) (fun _ i => s.size - (intOf i).toNat)
  case atStart => exact ⟨0, by omega, rfl, rfl⟩
  case round =>
    obtain ⟨k, hk, rfl, rfl⟩ := hrel
    by_cases hlt : k < s.size
    · have HC := Lib.hid (c32_take s k hlt 0xFFFFFFFF#32)
      have B := b32_walk
      generalize c32 (List.take k s.data.toList) 0xFFFFFFFF#32 = x at *
      go_wp2
      go_rounds 9
      exact ⟨⟨k + 1, by omega, by go_num, by rw [HC.out]; rfl⟩, by simp [intOf]; omega⟩
    · have hl : s.data.toList.length = s.size := by simp
      have hf : c32 (s.data.toList.take k) 0xFFFFFFFF#32 = ~~~ sum32 s.data.toList := by
        unfold sum32
        rw [List.take_of_length_le (by omega), BitVec.not_not]
      rw [hf]
      clear hf
      have U := un32 (sum32 s.data.toList)
      generalize hy : sum32 s.data.toList = y at *
      have HY := Lib.hid hy
      clear hy
      go_wp2
      go_ret
      exact ⟨by rw [HY.out] <;> rfl, rfl⟩

/-! ### Guarded words -/
def low48 (n : Nat) : Nat := n % 281474976710656
def check (n : Nat) : BitVec 16 := ~~~ sum16 (putL n 6)
def guardN (n : Nat) : Nat := withN n 48 16 (n16 (check n))
theorem guardN_lt (n : Nat) (hn : n < 18446744073709551616) : guardN n < 18446744073709551616 := withN_lt _ _ _ _ hn

set_option maxHeartbeats 1000000 in
theorem guard_any (n : Nat) (w : World) (hn : n < 18446744073709551616) :
    Calls Tryz.prog 125 #[.int .u64 n] w fun e w' => e = .returned (.int .u64 (guardN n : Nat)) ∧ Below w.heap.size w w' := by
  go_enter Tryz.func125, Tryz.ntmps125
  go_wp2_with fail
  refine (put_any n _ _ hn).mono ?_
  rintro e w1 ⟨rfl, hb1⟩
  rw [show clamp8 6 = 6 from rfl]
  go_wp2_with fail
  refine (sum16_any _ _ (by simp [ByteArray.size, putL_length, maxLen])).mono ?_
  rintro e w2 ⟨rfl, rfl⟩
  rw [show (ByteArray.mk (putL n 6).toArray).data.toList = putL n 6 by simp]
  have U := un16 (sum16 (putL n 6))
  have hc : (~~~ sum16 (putL n 6)) = check n := rfl
  rw [hc] at U
  have hlt := n16_lt (check n)
  generalize sum16 (putL n 6) = y at *
  have HC := Lib.hid hc
  clear hc
  generalize hk : check n = c at *
  have HK := Lib.hid hk
  clear hk
  go_wp2_with fail
  refine (with_any n _ _ (n16 c) _ hn (by omega) (by omega)).mono ?_
  rintro e w3 ⟨rfl, rfl⟩
  have hg : withN n 48 16 (n16 c) = guardN n := by unfold guardN; rw [HK.out]
  rw [hg]
  go_wp2_with fail
  go_ret
  exact ⟨rfl, hb1⟩

set_option maxHeartbeats 1000000 in
theorem guarded_yes (n : Nat) (w : World) (hn : n < 18446744073709551616) (h : guardN n = n) :
    Calls Tryz.prog 100 #[.int .u64 n] w fun e w' => e = .returned (.tuple #[.int .u64 (low48 n : Nat), .bool true]) ∧ Below w.heap.size w w' := by
  have H := Lib.hid h
  clear h
  go_enter Tryz.func100, Tryz.ntmps100
  go_wp2_with fail
  refine (guard_any n _ hn).mono ?_
  rintro e w1 ⟨rfl, hb1⟩
  rw [H.out]
  go_wp2_with fail
  refine (field_any n _ _ _ hn (by omega) (by omega)).mono ?_
  rintro e w2 ⟨rfl, rfl⟩
  have hf : fieldN n 0 48 = low48 n := by
    unfold fieldN low48
    rw [if_pos (by unfold okF; omega)]
    simp
  rw [hf]
  go_wp2_with fail
  go_ret2
  exact ⟨rfl, hb1⟩
end Go.Proofs.YtifekejcbhllpaaGreat
