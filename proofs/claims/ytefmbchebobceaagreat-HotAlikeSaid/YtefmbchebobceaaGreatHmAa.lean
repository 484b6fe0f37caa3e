/-
  HmAa: Base, FrameT, HtE, HtL, HtQ, SpL, FmA, FmB, HtU, FrameN, FrameP.
-/
import Derived.Test.YtefmbchebobceaaGreatHkAa
import Derived.Test.YtefmbchebobceaaGreatHkAb
import Derived.Test.YtefmbchebobceaaGreatHkAc
import Derived.Test.YtefmbchebobceaaGreatHkAd
import Derived.Test.YtefmbchebobceaaGreatHkAe
import Derived.Test.YtefmbchebobceaaGreatHkAf
import Derived.Test.YtefmbchebobceaaGreatHkAg
import Derived.Test.YtefmbchebobceaaGreatHkAh
import Derived.Test.YtefmbchebobceaaGreatHkAi
import Derived.Test.YtefmbchebobceaaGreatHkAj
import Derived.Test.YtefmbchebobceaaGreatHkAk
import Derived.Test.YtefmbchebobceaaGreatHkAl
import Derived.Test.YtefmbchebobceaaGreatHkAm
import Derived.Test.YtefmbchebobceaaGreatHkAn
import Derived.Test.YtefmbchebobceaaGreatHkAo
import Derived.Test.YtefmbchebobceaaGreatHkAp
import Derived.Test.YtefmbchebobceaaGreatHkAq
import Derived.Test.YtefmbchebobceaaGreatHkAr
import Derived.Test.YtefmbchebobceaaGreatHkAs
import Derived.Test.YtefmbchebobceaaGreatHkAt
import Derived.Test.YtefmbchebobceaaGreatHkAu
import Derived.Test.YtefmbchebobceaaGreatHkAv
import Derived.Test.YtefmbchebobceaaGreatHkAw
import Derived.Test.YtefmbchebobceaaGreatHkAx
import Derived.Test.YtefmbchebobceaaGreatHkAy
import Derived.Test.YtefmbchebobceaaGreatHkAz
import Derived.Test.YtefmbchebobceaaGreatHkBa
import Derived.Test.YtefmbchebobceaaGreatHkBb
import Derived.Test.YtefmbchebobceaaGreatHkBc
import Derived.Test.YtefmbchebobceaaGreatHkBd
import Derived.Test.YtefmbchebobceaaGreatHkBe
import Derived.Test.YtefmbchebobceaaGreatHkBf
import Derived.Test.YtefmbchebobceaaGreatHkBg
import Derived.Test.YtefmbchebobceaaGreatHkBh
import Derived.Test.YtefmbchebobceaaGreatHkBi
import Derived.Test.YtefmbchebobceaaGreatHkBj
import Derived.Test.YtefmbchebobceaaGreatHkBk
import Derived.Test.YtefmbchebobceaaGreatRows
import Derived.WalkKit
import Derived.Handy
import Derived.Lib.Hide
import Derived.Deep.QuietTactic
import Derived.BigQuiet
import Derived.KernelRfl
import Derived.ProofKit
import Derived.OpenShut
import Derived.SizedLaws
import Derived.Deep.Grids
import Derived.StillTailTactics
import Derived.IntWalk
import Derived.Maps.RangeWalk
import Derived.Maps.OwnSet
import Derived.Deep.LoopGhost
import Derived.Laws.AppendOwn
import Derived.Shelf.SlIterI.Nil
import Derived.Shelf.SortM.Plain
import Derived.Shelf.SortM.SortNone
import Derived.Ground.GgzProg
import Derived.Ground.SlgmProg
import Derived.Lib.AppendStr
import Derived.Shelf.Strings.Repeat
import Derived.Ground.NamesProg
import Derived.Lib.Agree
import Derived.Deep.MidRow
import Derived.Deep.RegionHeld3
import Derived.Deep.CutBlock
import Derived.ChangeSlices
import Derived.Deep.Slices
import Derived.Deep.RegionLaw
import Derived.Deep.AppendLies
import Derived.BigRegion

set_option linter.unusedVariables false

/-
  What many texts share: worlds below a bound; max with 0; small arithmetic.
-/
namespace Go.Proofs.YtefmbchebobceaaGreat
open Go.RowKit

def mx (y : Int) : Int := max 0 y
theorem mx_nonneg (y : Int) : 0 ≤ mx y := by unfold mx; omega
theorem max0 (P : Program) (ts : Array TypeId) (t : TypeId) (y : Int) (w : World) : (Builtin.max_ ts t #[.int .i64 0, .int .i64 y]).run P w = .ok (.int .i64 (mx y)) w := by
  rw [run_max_int2]
  have : (if y > 0 then y else 0) = mx y := by unfold mx; split <;> omega
  rw [this]
theorem natU64 {a : Int} (h : (Lit.int .u64 a).wf = true) : ∃ n : Nat, a = n ∧ n < 18446744073709551616 := by
  have := bounds_u64 h
  exact ⟨a.toNat, by omega, by omega⟩
end Go.Proofs.YtefmbchebobceaaGreat

/-
  Arguments of a law, opened: slices of bools, arrays of bools, arrays of arrays of integers.
-/
namespace Go.Proofs.YtefmbchebobceaaGreat
open Go.ChangeShapes Go.WideShapes Go.ChangeAt Go.RowKit Go.Deep

/-- The slice v reads in w as the bools kp below kl. -/
def SlB (w : World) (v : Value) (kl : Nat) (kp : Nat → Bool) : Prop := ∃ ao kc, v = .slice ao kl kc ∧ (∀ j, j < kl → ∃ b o, ao = some ⟨b, o, none⟩ ∧ b < w.heap.size ∧ w.cell? ⟨b, o + j, none⟩ = some (.bool (kp j))) ∧ (∀ j, kl ≤ j → kp j = false) ∧ kl ≤ maxLen ∧ kl ≤ kc ∧ kc ≤ maxLen ∧ (ao = none → kc = 0)
theorem open_bl_raw {H : Type} {enc : TypeId × Value → H} {P : Program} {w : World} {base : Nat} {held : Bool} {t e : TypeId} {cs : List Value} {x : DataW H × List MemPlace} {fuel : Nat}
    (ht : P.underlying t = some (.slice e)) (he : P.underlying e = some .bool) (hc : P.cellsOf e = 1) (h : DataW.trod enc P w base (fun _ => true) held fuel t cs = some x) :
    ∃ v kl kp, cs = [v] ∧ SlB w v kl kp := by
  rcases open_bools ht he hc h with ⟨hcs, hx⟩ | ⟨a, len, cap, B, hcs, hb, hl, hm, hx, hcell⟩
  · exact ⟨_, 0, fun _ => false, hcs, none, 0, rfl, (fun j hj => by omega), (fun _ _ => rfl), Nat.zero_le _, Nat.le_refl _, Nat.zero_le _, fun _ => rfl⟩
  · refine ⟨_, len, fun j => if j < len then B j else false, hcs, some a, cap, rfl, fun j hj => ?_, fun j hj => if_neg (by omega), by omega, hl, hm, fun e => by cases e⟩
    obtain ⟨b, off, spot⟩ := a
    have hspot : spot = none := by simpa [Addr.add] using World.cell?_spot (hcell 0 (by omega))
    subst hspot
    have hc1 := hcell j (by omega)
    rw [add_plain] at hc1
    refine ⟨b, off, rfl, ?_, ?_⟩
    · have := block_lt_of_cell hc1
      exact this
    · dsimp only; rw [hc1, if_pos hj]
end Go.Proofs.YtefmbchebobceaaGreat

/-
  Layer 10: pages at work on a calm device, no line bad: find, has, Len, Frame, Heat, Moved, Read, spot.
-/
namespace Go.Proofs.YtefmbchebobceaaGreat
open Go.RowKit
set_option linter.unusedVariables false

section
variable {C : CfgZ}
end
section
variable {w w' : World} {X : HtA} {A : FlA} {a : DevA} {C : CfgZ} {F : Nat → Nat → Nat} {V : FlV} {c : Nat → Nat} {N lim : Nat} {S : HtS}
theorem hfind_out (h : HtIs w X A a C F V c N lim S) (g k : Int) (ho : g < 0 ∨ (pgC C : Int) ≤ g ∨ k < 0 ∨ 8 ≤ k) : Calls Tryz.prog 65 #[.pointer (some ⟨X.pb, 0, none⟩), .int .i64 g, .int .i64 k] w fun e w' => e = .returned (.tuple #[.int .i64 0, .int .i64 3]) ∧ w' = w := by
  have HH := Lib.hid (hhas_any h g)
  clear h
  by_cases hg : 0 ≤ g ∧ g < (pgC C : Int)
  · rw [decide_eq_true hg] at HH
    by_cases hk : k < 0
    · clear ho hg
      go_enter Tryz.func65, Tryz.ntmps65
      go_wp2_with fail
      refine HH.out.mono ?_
      rintro e w2 ⟨rfl, rfl⟩
      go_wp2_with fail
      go_ret2
      exact ⟨rfl, rfl⟩
    · have hk8 : 8 ≤ k := by omega
      clear ho hg
      go_enter Tryz.func65, Tryz.ntmps65
      go_wp2_with fail
      refine HH.out.mono ?_
      rintro e w2 ⟨rfl, rfl⟩
      go_wp2_with fail
      go_ret2
      exact ⟨rfl, rfl⟩
  · rw [decide_eq_false hg] at HH
    clear ho hg
    go_enter Tryz.func65, Tryz.ntmps65
    go_wp2_with fail
    refine HH.out.mono ?_
    rintro e w2 ⟨rfl, rfl⟩
    go_wp2_with fail
    go_ret2
    exact ⟨rfl, rfl⟩
end
end Go.Proofs.YtefmbchebobceaaGreat

/-
  Layer 10: Write; pages told by what they read.
-/
namespace Go.Proofs.YtefmbchebobceaaGreat
open Go.RowKit
set_option linter.unusedVariables false

section
variable {w w' : World} {X : HtA} {A : FlA} {a : DevA} {C : CfgZ} {F F' : Nat → Nat → Nat} {V V' : FlV} {c c' : Nat → Nat} {N N' lim : Nat} {S : HtS}
theorem hchange_out {v : Value} (h : HtIs w X A a C F V c N lim S) (g k : Int) (ho : g < 0 ∨ (pgC C : Int) ≤ g ∨ k < 0 ∨ 8 ≤ k) :
    Calls Tryz.prog 58 #[.pointer (some ⟨X.pb, 0, none⟩), .int .i64 g, .int .i64 k, v] w fun e w' => e = .returned (.int .i64 3) ∧ w' = w := by
  have HF := Lib.hid (hfind_out h g k ho)
  clear h ho
  go_enter Tryz.func58, Tryz.ntmps58
  go_wp2_with fail
  refine HF.out.mono ?_
  rintro e w2 ⟨rfl, rfl⟩
  go_wp2_with fail
  go_ret
  exact ⟨rfl, rfl⟩
theorem hwrite_out (h : HtIs w X A a C F V c N lim S) (g k : Int) (ho : g < 0 ∨ (pgC C : Int) ≤ g ∨ k < 0 ∨ 8 ≤ k) (s : ByteArray) (hs : s.size = 64) :
    Calls Tryz.prog 20 #[.pointer (some ⟨X.pb, 0, none⟩), .int .i64 g, .int .i64 k, .string s] w fun e w' => e = .returned (.int .i64 3) ∧ Gr [] w w' := by
  have hs1 : ((s.size : Int) != 64) = false := by rw [hs]; rfl
  have hs2 : (s.size != 64) = false := by rw [hs]; rfl
  have gb := ((Gr.refl [] w).alloc (Obj.cells #[.pointer (some ⟨X.pb, 0, none⟩)] 42)).alloc (Obj.cells #[.string s] 9)
  have h1 := (Holds.new w #[.pointer (some ⟨X.pb, 0, none⟩)] 42).alloc (Obj.cells #[.string s] 9)
  have h2 := Holds.new (w.alloc (Obj.cells #[.pointer (some ⟨X.pb, 0, none⟩)] 42)) #[.string s] 9
  have hsz : (w.alloc (Obj.cells #[.pointer (some ⟨X.pb, 0, none⟩)] 42)).heap.size = w.heap.size + 1 := World.size_alloc _ _
  rw [hsz] at h2
  have HC := Lib.hid (fun v => hchange_out (v := v) (h.gr0 gb) g k ho)
  have c0 := h1.cell 0
  have c1 := h2.cell 0
  have HG := Lib.hid gb
  clear h ho hs gb h1 h2 hsz
  go_enter Tryz.func20, Tryz.ntmps20
  go_upto_region 1 with fail
  generalize ((w.alloc (Obj.cells #[.pointer (some ⟨X.pb, 0, none⟩)] 42)).alloc (Obj.cells #[.string s] 9)) = w1 at *
  go_wp2_with fail
  refine (HC.out _).mono ?_
  rintro e w2 ⟨rfl, rfl⟩
  go_wp2_with fail
  go_ret
  exact ⟨rfl, HG.out⟩
/-- The error of a page's line. -/
def errH (C : CfgZ) (g k : Int) : Int := if g < 0 ∨ (pgC C : Int) ≤ g ∨ k < 0 ∨ 8 ≤ k then 3 else 0
def putY (C : CfgZ) (Y : Nat → Nat → Nat → Nat) (g k : Int) (s : ByteArray) : Nat → Nat → Nat → Nat := fun g2 k2 m => if (g2 : Int) = g ∧ (k2 : Int) = k then wdL s.data.toList m else Y g2 k2 m
variable {Y : Nat → Nat → Nat → Nat}
theorem HL.gr {bs : List Nat} (h : HL C X A a lim Y N w) (k : Gr bs w w') (hn : ∀ x ∈ X.all ++ (A.all (cR C) ++ a.all), x ∉ bs) : HL C X A a lim Y N w' := by
  obtain ⟨l1, l2, F, V, c, S, h1, h2⟩ := h
  exact ⟨l1, l2, F, V, c, S, h1.gr k (fun x hx => hn x (List.mem_append.2 (.inl hx))) (fun x hx => hn x (List.mem_append.2 (.inr hx))), h2⟩
theorem HL.gr0 (h : HL C X A a lim Y N w) (k : Gr [] w w') : HL C X A a lim Y N w' := h.gr k (by simp)
theorem HL.more (h : HL C X A a lim Y N w) (hN : N ≤ N') : HL C X A a lim Y N' w := by
  obtain ⟨l1, l2, F, V, c, S, h1, h2⟩ := h
  exact ⟨l1, l2, F, V, c, S, h1.more hN, h2⟩
/-- What a page's line reads. -/
theorem HL.read (h : HL C X A a lim Y N w) (g k : Nat) (hg : g < pgC C) (hk : k < 8) : ∃ T : ByteArray, T.size = 64 ∧ (∀ m, m < 8 → wdL T.data.toList m = Y g k m) ∧ Calls Tryz.prog 24 #[.pointer (some ⟨X.pb, 0, none⟩), .int .i64 (g : Int), .int .i64 (k : Int)] w fun e w' => e = .returned (.tuple #[.string T, .int .i64 0]) ∧ Gr [] w w' := by
  obtain ⟨l1, l2, F, V, c, S, h1, h2⟩ := h
  have n := pg_nums h1.fl.ok h1.pos
  have hf := (h1.inv.lt g hg).2
  obtain ⟨e1, e2⟩ := h1.fl.fl.size (8 * S.fr g + k) (by omega)
  exact ⟨_, e1, fun m hm => (e2 m hm).trans (h2 g k m hg hk hm), hread_in h1 g k hg hk⟩
theorem HL.put (h : HL C X A a lim Y N w) (hN : N < 400000000) (g k : Int) (s : ByteArray) (hs : s.size = 64) :
    Calls Tryz.prog 20 #[.pointer (some ⟨X.pb, 0, none⟩), .int .i64 g, .int .i64 k, .string s] w fun e w' => e = .returned (.int .i64 (errH C g k)) ∧ HL C X A a lim (putY C Y g k s) (N + 42000) w' ∧ Gr (X.all ++ (A.all (cR C) ++ a.all)) w w' := by
  obtain ⟨l1, l2, F, V, c, S, h1, h2⟩ := h
  unfold errH
  by_cases ho : g < 0 ∨ (pgC C : Int) ≤ g ∨ k < 0 ∨ 8 ≤ k
  · rw [if_pos ho]
    refine (hwrite_out h1 g k ho s hs).mono ?_
    rintro e w2 ⟨rfl, g2⟩
    refine ⟨rfl, ⟨l1, l2, F, V, c, S, (h1.gr0 g2).more (by omega), fun g3 k3 m hg hk hm => ?_⟩, g2.of0⟩
    unfold putY
    rw [if_neg (by omega)]
    exact h2 g3 k3 m hg hk hm
  · rw [if_neg ho]
    obtain ⟨gn, rfl⟩ : ∃ n : Nat, g = (n : Int) := ⟨g.toNat, by omega⟩
    obtain ⟨kn, rfl⟩ : ∃ n : Nat, k = (n : Int) := ⟨k.toNat, by omega⟩
    have hgn : gn < pgC C := by omega
    refine (hwrite_in h1 l1 l2 hN gn kn hgn (by omega) s hs).mono ?_
    rintro e w2 ⟨F1, V1, V2, c1, S1, rfl, q1, q2, q3, q4⟩
    refine ⟨rfl, ⟨l1, l2, _, V2, _, _, q3, fun g3 k3 m hg hk hm => ?_⟩, q4⟩
    have hinj := q3.inv.inj
    have hfr : (htS S1 gn (S1.ht gn + 1)).fr = S1.fr := rfl
    rw [hfr] at hinj ⊢
    unfold putY
    show (if 8 * S1.fr g3 + k3 = 8 * S1.fr gn + kn then _ else F1 (8 * S1.fr g3 + k3) m) = _
    by_cases e : g3 = gn ∧ k3 = kn
    · rw [if_pos (by rw [e.1, e.2]), if_pos (by omega)]
    · rw [if_neg, if_neg (by omega), (q1.same l1).1 g3 k3 m hg hk]
      · exact h2 g3 k3 m hg hk hm
      · intro e2
        have : S1.fr g3 = S1.fr gn := by omega
        exact e ⟨hinj g3 gn hg hgn this, by omega⟩
end
end Go.Proofs.YtefmbchebobceaaGreat

/-
  Layer 10: Make.
-/
namespace Go.Proofs.YtefmbchebobceaaGreat
open Go.RowKit
set_option linter.unusedVariables false

theorem mkF_zero {C : CfgZ} {l k : Nat} (hp : pgC C ≤ 64 * tbC C) (hl : 8 * tbC C ≤ l) : mkF C (pgC C) l k = 0 := if_neg (by omega)
section
variable {w w' : World} {a : DevA} {C : CfgZ}
end
end Go.Proofs.YtefmbchebobceaaGreat

/-
  Layer 5: the document's plans; the law's small.
-/
namespace Go.Proofs.YtefmbchebobceaaGreat
open Go.RowKit

theorem rplan_cells (p : PlanZ) (w : World) : (w.alloc (Obj.cells #[.int .i64 p.a, .int .i64 p.l, .int .i64 p.s] 131)).cell? ⟨w.heap.size, 0, none⟩ = some (.int .i64 p.a) ∧ (w.alloc (Obj.cells #[.int .i64 p.a, .int .i64 p.l, .int .i64 p.s] 131)).cell? ⟨w.heap.size, 1, none⟩ = some (.int .i64 p.l) ∧ (w.alloc (Obj.cells #[.int .i64 p.a, .int .i64 p.l, .int .i64 p.s] 131)).cell? ⟨w.heap.size, 2, none⟩ = some (.int .i64 p.s) := (Holds.new w _ _).three
theorem below_rplan (p : PlanZ) (w : World) : Below w.heap.size w (w.alloc (Obj.cells #[.int .i64 p.a, .int .i64 p.l, .int .i64 p.s] 131)) := (Below.refl _ w).alloc (Nat.le_refl _) _
theorem rtable_any (p : PlanZ) (hp : okZ p = true) (w : World) : Calls Tryz.prog 122 #[planV p] w fun e w' => e = .returned (.int .i64 (tabZ p)) ∧ Below w.heap.size w w' := by
  obtain ⟨a, l, s⟩ := p
  obtain ⟨h1, h2, h3, h4, h5, h6⟩ := (okZ_iff _).1 hp
  simp only at h1 h2 h3 h4 h5 h6
  unfold planV tabZ
  simp only
  have HB := Lib.hid ((Below.refl w.heap.size w).alloc (Nat.le_refl _) (Obj.cells #[.int .i64 a, .int .i64 l, .int .i64 s] 131))
  clear hp
  go_enter Tryz.func122, Tryz.ntmps122
  go_wp2
  go_ret
  exact ⟨rfl, HB.out⟩
set_option maxHeartbeats 4000000 in
theorem rsize_any (p : PlanZ) (hp : okZ p = true) (w : World) : Calls Tryz.prog 69 #[planV p] w fun e w' => e = .returned (.int .i64 (sizeZ p)) ∧ Below w.heap.size w w' := by
  obtain ⟨c0, c1, c2⟩ := rplan_cells p w
  have HB := Lib.hid (below_rplan p w)
  obtain ⟨w1, hw1⟩ : ∃ w1, w1 = w.alloc (Obj.cells #[.int .i64 p.a, .int .i64 p.l, .int .i64 p.s] 131) := ⟨_, rfl⟩
  have hl : w.heap.size < w1.heap.size := by rw [hw1, World.size_alloc]; omega
  have hs : sizeZ p = tabZ p + p.l + p.s := by unfold sizeZ; rw [if_pos hp]
  obtain ⟨h1, h2, h3, h4, h5, h6⟩ := (okZ_iff p).1 hp
  have HT := Lib.hid (fun W => show Calls Tryz.prog 122 #[.agg #[.int .i64 p.a, .int .i64 p.l, .int .i64 p.s]] W _ from rtable_any p hp W)
  have ht : 0 ≤ tabZ p ∧ tabZ p ≤ 8 := by unfold tabZ; omega
  obtain ⟨t, htt⟩ : ∃ t, t = tabZ p := ⟨_, rfl⟩
  rw [← htt] at HT hs ht
  have HS := Lib.hid hs
  have i1 : IntKind.i64.wrap (t + p.l) = t + p.l := IntWalk.i64_in _ (by omega)
  have i2 : IntKind.i64.wrap (t + p.l + p.s) = t + p.l + p.s := IntWalk.i64_in _ (by omega)
  clear hp hs htt ht
  unfold planV
  go_enter Tryz.func69, Tryz.ntmps69
  go_wp2_with fail
  rw [← hw1] at c0 c1 c2 HB ⊢
  clear hw1
  refine (HT.out _).mono ?_
  rintro e w2 ⟨rfl, hb2⟩
  replace c0 := (hb2.cell (p := ⟨w.heap.size, 0, none⟩) hl).trans c0
  replace c1 := (hb2.cell (p := ⟨w.heap.size, 1, none⟩) hl).trans c1
  replace c2 := (hb2.cell (p := ⟨w.heap.size, 2, none⟩) hl).trans c2
  have HB2 := Lib.hid (Below_nx HB.out hb2)
  clear hb2
  go_wp2_with fail
  go_ret
  exact ⟨by rw [HS.out]; rfl, HB2.out⟩
end Go.Proofs.YtefmbchebobceaaGreat

/-
  FlatMakes: the document's Check and Size of a config.
-/
namespace Go.Proofs.YtefmbchebobceaaGreat
open Go.RowKit
set_option linter.unusedVariables false

theorem rbankG9 (a l s psi : Int) (hl : -9223372036854775808 ≤ l ∧ l ≤ 9223372036854775807) (w : World) : Calls Tryz.prog 68 #[.agg #[.int .i64 a, .int .i64 l, .int .i64 s, .int .i64 psi]] w fun e w' => e = .returned (planV ⟨a, IntKind.i64.wrap (l + 2), s⟩) ∧ Gr [] w w' := by
  have HG := Lib.hid (((Gr.refl [] w).alloc (Obj.cells #[.int .i64 a, .int .i64 l, .int .i64 s, .int .i64 psi] 65)).alloc (Obj.cells #[.int .i64 0, .int .i64 0, .int .i64 0] 131))
  obtain ⟨x, hx⟩ : ∃ x : Int, IntKind.i64.wrap (l + 2) = x := ⟨_, rfl⟩
  unfold planV
  rw [hx]
  clear hl
  go_enter Tryz.func68, Tryz.ntmps68
  go_wp2_with fail
  exact bodyPost_ret (v := .agg #[.int .i64 a, .int .i64 x, .int .i64 s]) (by simp [results, Tryz.results68, go_sem]) rfl ⟨rfl, ((Gr.refl [] w).alloc _).alloc _⟩
set_option maxRecDepth 100000 in
set_option maxHeartbeats 8000000 in
theorem rplan9 (C : CfgZ) (ho : okP C) (r : Int) (hr : 0 ≤ r ∧ r ≤ 16) (w : World) : Calls Tryz.prog 26 #[cfgV C, .int .i64 r] w fun e w' => e = .returned (.agg #[.int .i64 (1 + r * regS C), .int .i64 C.l, .int .i64 C.s, .int .i64 C.psi]) ∧ Gr [] w w' := by
  have ho' := ho
  obtain ⟨h1, h2, h3, h4, h5, h6⟩ := ho
  obtain ⟨rs, hrs⟩ := regS_ok ho'
  have hb := mul_b C hr.1 hr.2
  have hbb := regS_b C
  obtain ⟨x, hx⟩ : ∃ x, x = C.l + 2 := ⟨_, rfl⟩
  have hok : okZ ⟨0, C.l + 2, C.s⟩ = true := (okZ_iff _).2 ⟨by simp only; omega, by simp only; omega, by simp only; omega, by simp only; omega, by simp only; omega, by simp only; omega⟩
  have hsz : sizeZ ⟨0, C.l + 2, C.s⟩ = regS C := by
    rw [hrs]
    unfold sizeZ
    rw [if_pos hok]
    rfl
  have HB := Lib.hid (fun W => rbankG9 0 C.l C.s C.psi (by omega) W)
  rw [show IntKind.i64.wrap (C.l + 2) = x from by rw [hx]; exact IntWalk.i64_in _ (by omega)] at HB
  have HS := Lib.hid (fun W => show Calls Tryz.prog 69 #[.agg #[.int .i64 0, .int .i64 x, .int .i64 C.s]] W (fun e w' => e = .returned (.int .i64 (regS C)) ∧ Below W.heap.size W w') from by rw [hx, ← hsz]; exact rsize_any ⟨0, C.l + 2, C.s⟩ hok W)
  unfold planV at HB
  obtain ⟨R, l, s, psi, key⟩ := C
  simp only at h1 h2 h3 h4 h5 h6
  obtain ⟨z, hz⟩ : ∃ z, z = regS ⟨R, l, s, psi, key⟩ := ⟨_, rfl⟩
  rw [← hz] at hb HS hbb ⊢
  have m1 : IntKind.i64.wrap (r * z) = r * z := IntWalk.i64_in _ (by omega)
  have m2 : IntKind.i64.wrap (1 + r * z) = 1 + r * z := IntWalk.i64_in _ (by omega)
  unfold cfgV
  have hh := Holds.new w #[.int .i64 R, .int .i64 l, .int .i64 s, .int .i64 psi, .int .u64 (key : Int)] 27
  have hg := (Gr.refl [] w).alloc (Obj.cells #[.int .i64 R, .int .i64 l, .int .i64 s, .int .i64 psi, .int .u64 (key : Int)] 27)
  have hh2 := hh.alloc (Obj.cells #[.int .i64 0, .int .i64 0, .int .i64 0, .int .i64 0] 65)
  have hr2 := Holds.new (w.alloc (Obj.cells #[.int .i64 R, .int .i64 l, .int .i64 s, .int .i64 psi, .int .u64 (key : Int)] 27)) #[.int .i64 0, .int .i64 0, .int .i64 0, .int .i64 0] 65
  rw [World.size_alloc] at hr2
  have HG := Lib.hid (And.intro hh2 (And.intro hr2 (hg.alloc (Obj.cells #[.int .i64 0, .int .i64 0, .int .i64 0, .int .i64 0] 65))))
  clear hh hg hh2 hr2 hsz hok hrs rs ho' hx hz
  go_enter Tryz.func26, Tryz.ntmps26
  go_upto_region 1 with fail
  generalize ((w.alloc (Obj.cells #[.int .i64 R, .int .i64 l, .int .i64 s, .int .i64 psi, .int .u64 (key : Int)] 27)).alloc (Obj.cells #[.int .i64 0, .int .i64 0, .int .i64 0, .int .i64 0] 65)) = w1 at *
  obtain ⟨cb, hcb⟩ : ∃ cb, w.heap.size = cb := ⟨_, rfl⟩
  have HW := Lib.hid hcb
  rw [hcb] at HG ⊢
  clear hcb
  have c1 := HG.out.1.cell 1
  have c2 := HG.out.1.cell 2
  have c3 := HG.out.1.cell 3
  go_upto_region 2 with fail
  have hp := Holds.new w1 #[.int .i64 0, .int .i64 l, .int .i64 s, .int .i64 psi] 65
  have ga := (Gr.refl [] w1).alloc (Obj.cells #[.int .i64 0, .int .i64 l, .int .i64 s, .int .i64 psi] 65)
  have H1 := Lib.hid (And.intro hp (And.intro (HG.out.2.1.gr0 ga) (HG.out.2.2.trans ga)))
  have HLT := Lib.hid (show cb + 1 < w1.heap.size from HG.out.2.1.lt)
  clear hp ga c1 c2 c3 HG
  generalize (w1.alloc (Obj.cells #[.int .i64 0, .int .i64 l, .int .i64 s, .int .i64 psi] 65)) = w2 at *
  obtain ⟨pb, hpb⟩ : ∃ pb, w1.heap.size = pb := ⟨_, rfl⟩
  rw [hpb] at H1 HLT ⊢
  clear hpb
  have p0 := H1.out.1.cell 0
  have p1 := H1.out.1.cell 1
  have p2 := H1.out.1.cell 2
  have p3 := H1.out.1.cell 3
  go_wp2_with fail
  refine (HB.out _).mono ?_
  rintro e w3 ⟨rfl, g3⟩
  have hb3 := Holds.new w3 #[.int .i64 0, .int .i64 x, .int .i64 s] 131
  have gb := (Gr.refl [] w3).alloc (Obj.cells #[.int .i64 0, .int .i64 x, .int .i64 s] 131)
  have H3 := Lib.hid (And.intro hb3 (And.intro ((H1.out.1.gr0 g3).gr0 gb) (And.intro ((H1.out.2.1.gr0 g3).gr0 gb) ((H1.out.2.2.trans g3).trans gb))))
  clear g3 hb3 gb p0 p1 p2 p3 H1
  go_upto_region 3 with fail
  generalize (w3.alloc (Obj.cells #[.int .i64 0, .int .i64 x, .int .i64 s] 131)) = w4 at *
  obtain ⟨bb, hbb⟩ : ∃ bb, w3.heap.size = bb := ⟨_, rfl⟩
  rw [hbb] at H3 ⊢
  clear hbb
  have b0 := H3.out.1.cell 0
  have b1 := H3.out.1.cell 1
  have b2 := H3.out.1.cell 2
  go_wp2_with fail
  refine (HS.out _).mono ?_
  rintro e w5 ⟨rfl, b5⟩
  have g5 : Gr [] w4 w5 := .ofBelow b5
  have H5 := Lib.hid (And.intro (H3.out.2.1.gr0 g5) (And.intro (H3.out.2.2.1.gr0 g5) (H3.out.2.2.2.trans g5)))
  clear b5 g5 b0 b1 b2 H3
  have p0 := H5.out.1.cell 0
  have fz := H5.out.1.frozen 0
  go_upto_region 5 with fail
  have hs := H5.out.1.set 0 (.int .i64 (1 + r * z))
  have H6 := Lib.hid (show Holds (w5.setCell ⟨pb, 0, none⟩ (.int .i64 (1 + r * z))) pb #[.int .i64 (1 + r * z), .int .i64 l, .int .i64 s, .int .i64 psi] 65 ∧ Holds (w5.setCell ⟨pb, 0, none⟩ (.int .i64 (1 + r * z))) (cb + 1) #[.int .i64 0, .int .i64 0, .int .i64 0, .int .i64 0] 65 ∧ Gr [] w (w5.setCell ⟨pb, 0, none⟩ (.int .i64 (1 + r * z))) from ⟨by simpa using hs, H5.out.2.1.far (by have := HLT.out; simp only; omega) _, H5.out.2.2.setCell (.inr (by have := HLT.out; have := HW.out; simp only; omega)) _⟩)
  clear hs p0 fz H5
  generalize (w5.setCell ⟨pb, 0, none⟩ (.int .i64 (1 + r * z))) = w6 at *
  have p0 := H6.out.1.cell 0
  have p1 := H6.out.1.cell 1
  have p2 := H6.out.1.cell 2
  have p3 := H6.out.1.cell 3
  have q0 := H6.out.2.1.cell 0
  have q1 := H6.out.2.1.cell 1
  have q2 := H6.out.2.1.cell 2
  have q3 := H6.out.2.1.cell 3
  have f0 := H6.out.2.1.frozen 0
  have f1 := H6.out.2.1.frozen 1
  have f2 := H6.out.2.1.frozen 2
  have f3 := H6.out.2.1.frozen 3
  have HF := Lib.hid ((((H6.out.2.2.setCell (p := ⟨cb + 1, 0, none⟩) (.inr (by have := HW.out; simp only; omega)) (.int .i64 (1 + r * z))).setCell (p := ⟨cb + 1, 1, none⟩) (.inr (by have := HW.out; simp only; omega)) (.int .i64 l)).setCell (p := ⟨cb + 1, 2, none⟩) (.inr (by have := HW.out; simp only; omega)) (.int .i64 s)).setCell (p := ⟨cb + 1, 3, none⟩) (.inr (by have := HW.out; simp only; omega)) (.int .i64 psi))
  go_wp2_with fail
  exact bodyPost_ret (v := .agg #[.int .i64 (1 + r * z), .int .i64 l, .int .i64 s, .int .i64 psi]) (by simp [results, Tryz.results26, go_sem, *]) rfl ⟨rfl, HF.out⟩
end Go.Proofs.YtefmbchebobceaaGreat

/-
  FlatMakes: the document's Check and Size of a config: what the program's are.
-/
namespace Go.Proofs.YtefmbchebobceaaGreat
open Go.RowKit
set_option linter.unusedVariables false

theorem check9_ok {C : CfgZ} {n : Int} (h : 1 ≤ C.r ∧ C.r ≤ 16 ∧ okP C) : sizeC C = 1 + C.r * regS C ∧ 1 ≤ sizeC C ∧ checkC C n = if n < 1 + C.r * regS C then 3 else 0 := by
  have hb := mul_b C (k := C.r) (by omega) h.2.1
  have hs : sizeC C = 1 + C.r * regS C := by unfold sizeC; rw [if_pos h]
  refine ⟨hs, by omega, ?_⟩
  unfold checkC
  rw [if_neg (by omega), hs]
set_option maxRecDepth 100000 in
set_option maxHeartbeats 8000000 in
theorem rsize9 (C : CfgZ) (h : 1 ≤ C.r ∧ C.r ≤ 16 ∧ okP C) (w : World) : Calls Tryz.prog 10 #[cfgV C] w fun e w' => e = .returned (.int .i64 (sizeC C)) ∧ Gr [] w w' := by
  have HP := Lib.hid (fun W => rplan9 C h.2.2 C.r ⟨by omega, h.2.1⟩ W)
  obtain ⟨z, hz⟩ : ∃ z, z = sizeC C := ⟨_, rfl⟩
  rw [← (check9_ok (n := 0) h).1, ← hz] at HP
  rw [← hz]
  clear hz h
  obtain ⟨R, l, s, psi, key⟩ := C
  unfold cfgV at HP ⊢
  have hh := Holds.new w #[.int .i64 R, .int .i64 l, .int .i64 s, .int .i64 psi, .int .u64 (key : Int)] 27
  have HG := Lib.hid ((Gr.refl [] w).alloc (Obj.cells #[.int .i64 R, .int .i64 l, .int .i64 s, .int .i64 psi, .int .u64 (key : Int)] 27))
  go_enter Tryz.func10, Tryz.ntmps10
  go_upto_region 1 with fail
  generalize (w.alloc (Obj.cells #[.int .i64 R, .int .i64 l, .int .i64 s, .int .i64 psi, .int .u64 (key : Int)] 27)) = w1 at *
  obtain ⟨cb, hcb⟩ : ∃ cb, w.heap.size = cb := ⟨_, rfl⟩
  rw [hcb] at hh ⊢
  clear hcb
  have c0 := hh.cell 0
  have c1 := hh.cell 1
  have c2 := hh.cell 2
  have c3 := hh.cell 3
  have c4 := hh.cell 4
  clear hh
  go_wp2_with fail
  with_reducible refine (HP.out _).mono ?_
  rintro e w2 ⟨rfl, g2⟩
  have hp := Holds.new w2 #[.int .i64 z, .int .i64 l, .int .i64 s, .int .i64 psi] 65
  have HG2 := Lib.hid ((HG.out.trans g2).alloc (Obj.cells #[.int .i64 z, .int .i64 l, .int .i64 s, .int .i64 psi] 65))
  clear g2 c0 c1 c2 c3 c4 HG
  go_upto_region 2 with fail
  generalize (w2.alloc (Obj.cells #[.int .i64 z, .int .i64 l, .int .i64 s, .int .i64 psi] 65)) = w3 at *
  obtain ⟨pb, hpb⟩ : ∃ pb, w2.heap.size = pb := ⟨_, rfl⟩
  rw [hpb] at hp ⊢
  clear hpb
  have p0 := hp.cell 0
  clear hp
  go_wp2_with fail
  go_ret
  exact ⟨rfl, HG2.out⟩
end Go.Proofs.YtefmbchebobceaaGreat

/-
  HotAlike: the law's small; pages at work after so many writes.
-/
namespace Go.Proofs.YtefmbchebobceaaGreat
open Go.RowKit
set_option linter.unusedVariables false

def smC (r s p : Int) (key : Nat) : CfgZ := ⟨2 + mx r % 2, 16, mx s % 4, 1 + mx p % 4, key⟩
def smL (h : Int) : Int := 1 + mx h % 5
theorem smC_ok (r s p : Int) (key : Nat) (hk : key < 18446744073709551616) : OkC (smC r s p key) ∧ 0 < pgC (smC r s p key) ∧ pgC (smC r s p key) ≤ 2 ∧ 1 ≤ sizeC (smC r s p key) ∧ sizeC (smC r s p key) ≤ 67 := by
  have h0 := mx_nonneg r
  have h2 := mx_nonneg s
  have h3 := mx_nonneg p
  obtain ⟨C, hC⟩ : ∃ C, C = smC r s p key := ⟨_, rfl⟩
  rw [← hC]
  have e1 : C.r = 2 + mx r % 2 := by rw [hC]; rfl
  have e2 : C.l = 16 := by rw [hC]; rfl
  have e3 : C.s = mx s % 4 := by rw [hC]; rfl
  have e4 : C.psi = 1 + mx p % 4 := by rw [hC]; rfl
  have e5 : C.key = key := by rw [hC]; rfl
  clear hC
  have ok : okP C := by unfold okP; omega
  obtain ⟨_, hs⟩ := regS_ok ok
  have hrs : 0 ≤ regS C ∧ regS C ≤ 22 := by rw [hs]; omega
  have hm : C.r * regS C ≤ 3 * 22 := Int.mul_le_mul (by omega) hrs.2 hrs.1 (by omega)
  have hm0 : 0 ≤ C.r * regS C := Int.mul_nonneg (by omega) hrs.1
  have hO : OkC C := ⟨by omega, by omega, ok, by omega, by omega⟩
  have hz := hO.size
  have hp : pgC C = pgN (restC C) (restC C) := by
    unfold pgC
    rw [if_neg (by omega)]
  have hr : restC C = 2 ∨ restC C = 3 := by
    unfold restC
    rw [e2, e1]
    omega
  refine ⟨hO, ?_, ?_, by omega, by omega⟩
  · rw [hp]; rcases hr with h | h <;> rw [h] <;> decide
  · rw [hp]; rcases hr with h | h <;> rw [h] <;> decide
set_option maxRecDepth 100000 in
set_option maxHeartbeats 8000000 in
theorem small10 (r l s p h : Int) (key : Nat) (w : World) : Calls Tryz.prog 9 #[.agg #[.int .i64 r, .int .i64 l, .int .i64 s, .int .i64 p, .int .i64 h, .int .u64 (key : Int)]] w fun e w' => e = .returned (.tuple #[cfgV (smC r s p key), .int .i64 (smL h)]) ∧ Gr [] w w' := by
  have hmx := max0 Tryz.prog
  have h0 := mx_nonneg r
  have h2 := mx_nonneg s
  have h3 := mx_nonneg p
  have h4 := mx_nonneg h
  obtain ⟨r1, e1⟩ : ∃ x, x = mx r % 2 := ⟨_, rfl⟩
  obtain ⟨s1, e3⟩ : ∃ x, x = mx s % 4 := ⟨_, rfl⟩
  obtain ⟨p1, e4⟩ : ∃ x, x = mx p % 4 := ⟨_, rfl⟩
  obtain ⟨h1, e5⟩ : ∃ x, x = mx h % 5 := ⟨_, rfl⟩
  have u1 : (mx r).tmod 2 = mx r % 2 := Int.tmod_eq_emod_of_nonneg h0
  have u3 : (mx s).tmod 4 = mx s % 4 := Int.tmod_eq_emod_of_nonneg h2
  have u4 : (mx p).tmod 4 = mx p % 4 := Int.tmod_eq_emod_of_nonneg h3
  have u5 : (mx h).tmod 5 = mx h % 5 := Int.tmod_eq_emod_of_nonneg h4
  have b0 : IntKind.i64.wrap (mx r % 2) = mx r % 2 := IntWalk.i64_in _ (by omega)
  have b2 : IntKind.i64.wrap (mx s % 4) = mx s % 4 := IntWalk.i64_in _ (by omega)
  have b3 : IntKind.i64.wrap (mx p % 4) = mx p % 4 := IntWalk.i64_in _ (by omega)
  have b6 : IntKind.i64.wrap (mx h % 5) = mx h % 5 := IntWalk.i64_in _ (by omega)
  have b1 : IntKind.i64.wrap (2 + mx r % 2) = 2 + mx r % 2 := IntWalk.i64_in _ (by omega)
  have b4 : IntKind.i64.wrap (1 + mx p % 4) = 1 + mx p % 4 := IntWalk.i64_in _ (by omega)
  have b5 : IntKind.i64.wrap (1 + mx h % 5) = 1 + mx h % 5 := IntWalk.i64_in _ (by omega)
  have hb1 := (Holds.new w #[.int .i64 r, .int .i64 l, .int .i64 s, .int .i64 p, .int .i64 h, .int .u64 (key : Int)] 24).alloc (Obj.cells #[.int .i64 0, .int .i64 0, .int .i64 0, .int .i64 0, .int .u64 0] 27)
  have hb2 := Holds.new (w.alloc (Obj.cells #[.int .i64 r, .int .i64 l, .int .i64 s, .int .i64 p, .int .i64 h, .int .u64 (key : Int)] 24)) #[.int .i64 0, .int .i64 0, .int .i64 0, .int .i64 0, .int .u64 0] 27
  rw [World.size_alloc] at hb2
  have hg := ((Gr.refl [] w).alloc (Obj.cells #[.int .i64 r, .int .i64 l, .int .i64 s, .int .i64 p, .int .i64 h, .int .u64 (key : Int)] 24)).alloc (Obj.cells #[.int .i64 0, .int .i64 0, .int .i64 0, .int .i64 0, .int .u64 0] 27)
  have H := Lib.hid (And.intro hb1 (And.intro hb2 hg))
  unfold cfgV smC smL
  clear hb1 hb2 hg e1 e3 e4 e5
  go_enter Tryz.func9, Tryz.ntmps9
  go_upto_region 1 with fail
  generalize (w.alloc (Obj.cells #[.int .i64 r, .int .i64 l, .int .i64 s, .int .i64 p, .int .i64 h, .int .u64 (key : Int)] 24)).alloc (Obj.cells #[.int .i64 0, .int .i64 0, .int .i64 0, .int .i64 0, .int .u64 0] 27) = w1 at *
  obtain ⟨b, hb⟩ : ∃ b, w.heap.size = b := ⟨_, rfl⟩
  have HW := Lib.hid (show w.heap.size ≤ b by omega)
  rw [hb] at H ⊢
  clear hb
  have c0 : w1.cell? ⟨b, 0, none⟩ = some (.int .i64 r) := H.out.1.cell 0
  have c1 : w1.cell? ⟨b, 1, none⟩ = some (.int .i64 l) := H.out.1.cell 1
  have c2 : w1.cell? ⟨b, 2, none⟩ = some (.int .i64 s) := H.out.1.cell 2
  have c3 : w1.cell? ⟨b, 3, none⟩ = some (.int .i64 p) := H.out.1.cell 3
  have c4 : w1.cell? ⟨b, 4, none⟩ = some (.int .i64 h) := H.out.1.cell 4
  have c5 : w1.cell? ⟨b, 5, none⟩ = some (.int .u64 (key : Int)) := H.out.1.cell 5
  obtain ⟨b2', hb2'⟩ : ∃ b2', b + 1 = b2' := ⟨_, rfl⟩
  have HW2 := Lib.hid (show w.heap.size ≤ b2' by have := HW.out; omega)
  have hn1 : b ≠ b2' := by omega
  have hn2 : b2' ≠ b := by omega
  rw [hb2'] at H ⊢
  clear hb2'
  have d0 : w1.cell? ⟨b2', 0, none⟩ = some (.int .i64 0) := H.out.2.1.cell 0
  have d1 : w1.cell? ⟨b2', 1, none⟩ = some (.int .i64 0) := H.out.2.1.cell 1
  have d2 : w1.cell? ⟨b2', 2, none⟩ = some (.int .i64 0) := H.out.2.1.cell 2
  have d3 : w1.cell? ⟨b2', 3, none⟩ = some (.int .i64 0) := H.out.2.1.cell 3
  have d4 : w1.cell? ⟨b2', 4, none⟩ = some (.int .u64 0) := H.out.2.1.cell 4
  have f0 := H.out.2.1.frozen 0
  have f1 := H.out.2.1.frozen 1
  have f2 := H.out.2.1.frozen 2
  have f3 := H.out.2.1.frozen 3
  have f4 := H.out.2.1.frozen 4
  have HF := Lib.hid (((((H.out.2.2.setCell (p := ⟨b2', 0, none⟩) (.inr HW2.out) (.int .i64 (2 + mx r % 2))).setCell (p := ⟨b2', 1, none⟩) (.inr HW2.out) (.int .i64 16)).setCell (p := ⟨b2', 2, none⟩) (.inr HW2.out) (.int .i64 (mx s % 4))).setCell (p := ⟨b2', 3, none⟩) (.inr HW2.out) (.int .i64 (1 + mx p % 4))).setCell (p := ⟨b2', 4, none⟩) (.inr HW2.out) (.int .u64 (key : Int)))
  go_region
  all_goals go_wp2_with fail
  exact bodyPost_ret (v := .tuple #[.agg #[.int .i64 (2 + mx r % 2), .int .i64 16, .int .i64 (mx s % 4), .int .i64 (1 + mx p % 4), .int .u64 (key : Int)], .int .i64 (1 + mx h % 5)]) (by simp [results, Tryz.results9, go_sem, *]) rfl ⟨rfl, by first | exact HF.out | exact HF.out.drew⟩
/-- Pages at work behind n writes at most. -/
def HQ (C : CfgZ) (X : HtA) (A : FlA) (a : DevA) (lim : Nat) (Y : Nat → Nat → Nat → Nat) (n : Nat) (w : World) : Prop := HL C X A a lim Y (300000 + 42000 * n) w
section
variable {w w' : World} {X : HtA} {A : FlA} {a : DevA} {C : CfgZ} {Y : Nat → Nat → Nat → Nat} {lim n m : Nat}
theorem HQ.gr {bs : List Nat} (h : HQ C X A a lim Y n w) (k : Gr bs w w') (hn : ∀ x ∈ X.all ++ (A.all (cR C) ++ a.all), x ∉ bs) : HQ C X A a lim Y n w' := HL.gr h k hn
theorem HQ.gr0 (h : HQ C X A a lim Y n w) (k : Gr [] w w') : HQ C X A a lim Y n w' := HL.gr0 h k
theorem HQ.put (h : HQ C X A a lim Y n w) (hn : n < 2000) (g k : Int) (s : ByteArray) (hs : s.size = 64) :
    Calls Tryz.prog 20 #[.pointer (some ⟨X.pb, 0, none⟩), .int .i64 g, .int .i64 k, .string s] w fun e w' => e = .returned (.int .i64 (errH C g k)) ∧ HQ C X A a lim (putY C Y g k s) (n + 1) w' ∧ Gr (X.all ++ (A.all (cR C) ++ a.all)) w w' := by
  refine (HL.put h (by omega) g k s hs).mono ?_
  rintro e w2 ⟨rfl, q, g2⟩
  exact ⟨rfl, q.more (by omega), g2⟩
theorem HQ.len (h : HQ C X A a lim Y n w) : Calls Tryz.prog 19 #[.pointer (some ⟨X.pb, 0, none⟩)] w fun e w' => e = .returned (.int .i64 (pgC C : Int)) ∧ w' = w := by
  obtain ⟨l1, l2, F, V, c, S, h1, h2⟩ := h
  exact hlen_any h1
/-- Two that hold the same words read the same. -/
theorem HQ.same {X2 : HtA} {A2 : FlA} {a2 : DevA} {lim2 n2 : Nat} (h : HQ C X A a lim Y n w) (h2 : HQ C X2 A2 a2 lim2 Y n2 w) (g k : Nat) (hg : g < pgC C) (hk : k < 8) : ∃ T : ByteArray, Calls Tryz.prog 24 #[.pointer (some ⟨X.pb, 0, none⟩), .int .i64 (g : Int), .int .i64 (k : Int)] w (fun e w' => e = .returned (.tuple #[.string T, .int .i64 0]) ∧ Gr [] w w') ∧ ∀ w2, Gr [] w w2 → Calls Tryz.prog 24 #[.pointer (some ⟨X2.pb, 0, none⟩), .int .i64 (g : Int), .int .i64 (k : Int)] w2 (fun e w' => e = .returned (.tuple #[.string T, .int .i64 0]) ∧ Gr [] w2 w') := by
  obtain ⟨T, t1, t2, t3⟩ := HL.read h g k hg hk
  refine ⟨T, t3, fun w2 gr => ?_⟩
  obtain ⟨T2, u1, u2, u3⟩ := HL.read (HQ.gr0 h2 gr) g k hg hk
  have e : T2 = T := bytes_eq u1 t1 fun m hm => (u2 m hm).trans (t2 m hm).symm
  rw [e] at u3
  exact u3
/-- Opened on a device that Make left. -/
theorem HQ.begin {V : FlV} {D : DevS} {B : Nat → BkS} {j : Nat → Nat} (hC : OkC C) (hp : 0 < pgC C) (hp2 : pgC C ≤ 2) (hf : FlD C true (mkF C (pgC C)) V (200000 + 4200 * pgC C) D B j) (hd : DevIs w a D) (hl : 1 ≤ lim) (hl2 : lim < 1000000) :
    Calls Tryz.prog 17 #[.pointer (some ⟨a.bd, 0, none⟩), .int .i64 (lim : Int)] w fun e w' => ∃ (X : HtA) (A : FlA), e = .returned (.tuple #[.pointer (some ⟨X.pb, 0, none⟩), .int .i64 0]) ∧ HQ C X A a lim (fun _ _ _ => 0) 0 w' ∧ (∀ x ∈ X.all ++ A.all (cR C), w.heap.size ≤ x) ∧ Gr [] w w' := by
  have n := pg_nums hC hp
  refine (hopen_any (lim := lim) hC hf hd (by omega) hp (mkF_tb hC hp) (fun _ _ => Nat.zero_le _) hl hl2).mono ?_
  rintro e w2 ⟨X, A, tk, rfl, q, nn, gr⟩
  refine ⟨X, A, rfl, ⟨hl, hl2, _, _, _, _, q.more (by omega), fun g k m hg hk hm => ?_⟩, nn, gr⟩
  exact mkF_zero n.2.2.2.2.1 (by show 8 * tbC C ≤ 8 * (tbC C + g) + k; omega)
end
end Go.Proofs.YtefmbchebobceaaGreat

/-
  Slices of acts (three integers, a word, a text, a list of bools) that come in as an argument of a law, opened.
-/
namespace Go.Proofs.YtefmbchebobceaaGreat
open Go.ChangeShapes Go.WideShapes Go.ChangeAt Go.RowKit
set_option linter.unusedVariables false

def I64 (x : Int) : Prop := -9223372036854775808 ≤ x ∧ x ≤ 9223372036854775807
end Go.Proofs.YtefmbchebobceaaGreat

/-
  A config (four integers, a word) that comes in as an argument of a law, opened.
-/
namespace Go.Proofs.YtefmbchebobceaaGreat
open Go.ChangeShapes Go.WideShapes Go.ChangeAt Go.RowKit
set_option linter.unusedVariables false

theorem okWide_strP {P : Program} {w : World} {r : Reach} {base : Nat} {t : TypeId} {v : Value} {fs : Array Field} (ht : P.underlying t = some (.struct fs)) (h : Value.okWide P w r base t v) : ∃ cs, v = .agg cs ∧ cs.size = P.cellsOf t := by
  simp only [Value.okWide, ht] at h
  obtain ⟨cs, h1, h2, _⟩ := h
  exact ⟨cs, h1, h2⟩
end Go.Proofs.YtefmbchebobceaaGreat
