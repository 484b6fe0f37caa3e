/-
  HqAa: PmB, FrameT, FlR, FlVc, FlW, HuA, HuE, HuL, MapP, HvA, HuM, HuN.
-/
import Derived.Test.YtefmbchebobceaaGreatHkAa
import Derived.Test.YtefmbchebobceaaGreatHkAb
import Derived.Test.YtefmbchebobceaaGreatHkAc
import Derived.Test.YtefmbchebobceaaGreatHkAd
import Derived.Test.YtefmbchebobceaaGreatHkAe
import Derived.Test.YtefmbchebobceaaGreatHkAf
import Derived.Test.YtefmbchebobceaaGreatHkAg
import Derived.Test.YtefmbchebobceaaGreatHkAh
import Derived.Test.YtefmbchebobceaaGreatHkAi
import Derived.Test.YtefmbchebobceaaGreatHkAj
import Derived.Test.YtefmbchebobceaaGreatHkAk
import Derived.Test.YtefmbchebobceaaGreatHkAl
import Derived.Test.YtefmbchebobceaaGreatHkAm
import Derived.Test.YtefmbchebobceaaGreatHkAn
import Derived.Test.YtefmbchebobceaaGreatHkAo
import Derived.Test.YtefmbchebobceaaGreatHkAp
import Derived.Test.YtefmbchebobceaaGreatHkAq
import Derived.Test.YtefmbchebobceaaGreatHkAr
import Derived.Test.YtefmbchebobceaaGreatHkAs
import Derived.Test.YtefmbchebobceaaGreatHkAt
import Derived.Test.YtefmbchebobceaaGreatHkAu
import Derived.Test.YtefmbchebobceaaGreatHkAv
import Derived.Test.YtefmbchebobceaaGreatHkAw
import Derived.Test.YtefmbchebobceaaGreatHkAx
import Derived.Test.YtefmbchebobceaaGreatHkAy
import Derived.Test.YtefmbchebobceaaGreatHkAz
import Derived.Test.YtefmbchebobceaaGreatHkBa
import Derived.Test.YtefmbchebobceaaGreatHkBb
import Derived.Test.YtefmbchebobceaaGreatHkBc
import Derived.Test.YtefmbchebobceaaGreatHkBd
import Derived.Test.YtefmbchebobceaaGreatHkBe
import Derived.Test.YtefmbchebobceaaGreatHkBf
import Derived.Test.YtefmbchebobceaaGreatHkBg
import Derived.Test.YtefmbchebobceaaGreatHkBh
import Derived.Test.YtefmbchebobceaaGreatHkBi
import Derived.Test.YtefmbchebobceaaGreatHkBj
import Derived.Test.YtefmbchebobceaaGreatHkBk
import Derived.Test.YtefmbchebobceaaGreatHpAa
import Derived.Test.YtefmbchebobceaaGreatHpAb
import Derived.Test.YtefmbchebobceaaGreatHpAc
import Derived.Test.YtefmbchebobceaaGreatHpAd
import Derived.Test.YtefmbchebobceaaGreatHpAe
import Derived.Test.YtefmbchebobceaaGreatHpAf
import Derived.Test.YtefmbchebobceaaGreatHpAg
import Derived.Test.YtefmbchebobceaaGreatHpAh
import Derived.Test.YtefmbchebobceaaGreatRows
import Derived.WalkKit
import Derived.Handy
import Derived.Lib.Hide
import Derived.Deep.QuietTactic
import Derived.BigQuiet
import Derived.KernelRfl
import Derived.Maps.RangeWalk
import Derived.Maps.OwnSet
import Derived.ProofKit
import Derived.OpenShut
import Derived.SizedLaws
import Derived.Deep.Grids
import Derived.StillTailTactics
import Derived.IntWalk
import Derived.Deep.LoopGhost
import Derived.Laws.AppendOwn
import Derived.Shelf.SlIterI.Nil
import Derived.Shelf.SortM.Plain
import Derived.Shelf.SortM.SortNone
import Derived.Ground.GgzProg
import Derived.Ground.SlgmProg
import Derived.Lib.AppendStr
import Derived.Shelf.Strings.Repeat
import Derived.Ground.NamesProg
import Derived.Lib.Agree
import Derived.Deep.MidRow
import Derived.Deep.RegionHeld3
import Derived.Deep.CutBlock
import Derived.ChangeSlices
import Derived.Deep.Slices
import Derived.Deep.RegionLaw
import Derived.Deep.AppendLies
import Derived.BigRegion
import Derived.WideKeyArr

set_option linter.unusedVariables false

/-
  Calls of package pm that only read, and those that write one field or cell.
-/
namespace Go.Proofs.YtefmbchebobceaaGreat
open Go.RowKit

/-! ### A field or a cell is written -/
section
variable {W : World} {a : DevA} {D : DevS}
theorem DevIs.setBad (h : DevIs W a D) (i : Nat) (x : Bool) : DevIs (W.setCell ⟨a.bg, i, none⟩ (.bool x)) a { D with bad := fun j => if j = i then x else D.bad j } := by
  obtain ⟨_, _, _, n4, _, _, n7, _, n9, n10⟩ := nd5 h.nd
  have g := grSet W a.bg i (.bool x)
  have r := h.bad.set i (.bool x)
  rw [rowOf_set] at r
  refine ⟨h.head.gr g (by simpa using n4), h.med.gr g (by simpa using n7), h.wear.gr g (by simpa using n10), ?_, h.buf.gr g (by simpa using n9), h.nd, ⟨h.ok.lo, h.ok.hi, h.ok.sup, h.ok.medB, h.ok.bufB, h.ok.fu⟩⟩
  have e : (fun j => if j = i then Value.bool x else Value.bool (D.bad j)) = fun j => Value.bool (if j = i then x else D.bad j) := by funext j; split <;> rfl
  rw [e] at r
  exact r
end

theorem break_in (a : DevA) (D : DevS) (i : Nat) (w : World) (h : DevIs w a D) (hi : i < D.n) : Calls Tryz.prog 27 #[.pointer (some ⟨a.bd, 0, none⟩), .int .i64 i] w fun e w' => e = .returned (.tuple #[]) ∧ DevIs w' a { D with bad := fun j => if j = i then true else D.bad j } ∧ Gr [a.bg] w w' := by
  have hh := hasLine_any a D w h i
  rw [decide_eq_true (by omega)] at hh
  have H := Lib.hid hh
  have c3 := h.c3
  have m := h.badAt hi
  have fr := h.bad.frozen i
  have hn := h.ok.hi
  have RR := Lib.hid (And.intro (h.setBad i true) (grSet w a.bg i (.bool true)))
  clear h hh
  obtain ⟨n, hn'⟩ : ∃ n, D.n = n := ⟨_, rfl⟩
  rw [hn'] at c3 hi hn
  clear hn'
  go_enter Tryz.func27, Tryz.ntmps27
  go_wp2_with (refine H.out.mono ?_; rintro e w' ⟨rfl, rfl⟩)
  go_returns
  exact ⟨rfl, RR.out.1, RR.out.2⟩
end Go.Proofs.YtefmbchebobceaaGreat

/-
  Arguments of a law, opened: slices of bools, arrays of bools, arrays of arrays of integers.
-/
namespace Go.Proofs.YtefmbchebobceaaGreat
open Go.ChangeShapes Go.WideShapes Go.ChangeAt Go.RowKit Go.Deep

/-- The slice v reads in w as the bools kp below kl. -/
def SlB (w : World) (v : Value) (kl : Nat) (kp : Nat → Bool) : Prop := ∃ ao kc, v = .slice ao kl kc ∧ (∀ j, j < kl → ∃ b o, ao = some ⟨b, o, none⟩ ∧ b < w.heap.size ∧ w.cell? ⟨b, o + j, none⟩ = some (.bool (kp j))) ∧ (∀ j, kl ≤ j → kp j = false) ∧ kl ≤ maxLen ∧ kl ≤ kc ∧ kc ≤ maxLen ∧ (ao = none → kc = 0)
theorem open_bl_raw {H : Type} {enc : TypeId × Value → H} {P : Program} {w : World} {base : Nat} {held : Bool} {t e : TypeId} {cs : List Value} {x : DataW H × List MemPlace} {fuel : Nat}
    (ht : P.underlying t = some (.slice e)) (he : P.underlying e = some .bool) (hc : P.cellsOf e = 1) (h : DataW.trod enc P w base (fun _ => true) held fuel t cs = some x) :
    ∃ v kl kp, cs = [v] ∧ SlB w v kl kp := by
  rcases open_bools ht he hc h with ⟨hcs, hx⟩ | ⟨a, len, cap, B, hcs, hb, hl, hm, hx, hcell⟩
  · exact ⟨_, 0, fun _ => false, hcs, none, 0, rfl, (fun j hj => by omega), (fun _ _ => rfl), Nat.zero_le _, Nat.le_refl _, Nat.zero_le _, fun _ => rfl⟩
  · refine ⟨_, len, fun j => if j < len then B j else false, hcs, some a, cap, rfl, fun j hj => ?_, fun j hj => if_neg (by omega), by omega, hl, hm, fun e => by cases e⟩
    obtain ⟨b, off, spot⟩ := a
    have hspot : spot = none := by simpa [Addr.add] using World.cell?_spot (hcell 0 (by omega))
    subst hspot
    have hc1 := hcell j (by omega)
    rw [add_plain] at hc1
    refine ⟨b, off, rfl, ?_, ?_⟩
    · have := block_lt_of_cell hc1
      exact this
    · dsimp only; rw [hc1, if_pos hj]
end Go.Proofs.YtefmbchebobceaaGreat

/-
  Layer 9: Where, Read, Write, WriteWord of a list that there is.
-/
namespace Go.Proofs.YtefmbchebobceaaGreat
open Go.RowKit
set_option linter.unusedVariables false

section
variable {w w' : World} {kb : Nat} {q : BkA} {a : DevA} {P : PlanR} {B : BkS} {m j c cc : Nat} {D : DevS}
set_option maxRecDepth 100000 in
set_option maxHeartbeats 8000000 in
theorem rgwhere9 (i : Nat) (hi : i < P.l) (h : RgIs w kb q a P B m j c) :
    Calls Tryz.prog 81 #[.pointer (some ⟨kb, 0, none⟩), .int .i64 (i : Int)] w fun e w' => e = .returned (.tuple #[.int .i64 (placeP (bankR P) B (slotJ P j i)), .int .i64 0]) ∧ Gr [] w w' := by
  have hz : inP (bankR P) (slotJ P j i) := by
    rw [slotJ_N P j i h.ok.l1]
    have := slotN_le (j := j) (i := i) h.ok.l1
    exact inR P (by omega) (by omega)
  have HF := Lib.hid (rfind_in i h hi)
  have HS := Lib.hid (fun W (g : Gr [] w W) => rslot_any i (h.gr0 g) hi)
  have HR := Lib.hid (fun W (g : Gr [] w W) => where_in (slotJ P j i) (h.bk.gr0 g) hz)
  obtain ⟨R, hR⟩ : ∃ R, R = placeP (bankR P) B (slotJ P j i) := ⟨_, rfl⟩
  rw [← hR] at HR ⊢
  have k4 := kp_cell (a := ⟨kb, 4, none⟩) h.c4
  have hne := kp_ne w
  clear h hi hR hz
  generalize slotJ P j i = z at *
  go_enter Tryz.func81, Tryz.ntmps81
  go_wp2_with fail
  refine HF.out.mono ?_
  rintro e w' ⟨rfl, rfl⟩
  go_wp2_with fail
  refine wp_region_kp (by kernel_rfl) (by kernel_rfl) ?_
  repeat (go_big_quiet_step ((rename_i x; first
    | exact kp_call x ((HS.out _ (Gr.ofBelow x.h)).mono fun _ _ q => ⟨q.1, q.2.below0⟩)
    | exact kp_call x ((HR.out _ (Gr.ofBelow x.h)).mono fun _ _ q => ⟨q.1, q.2.below0⟩))))
  with_reducible refine wpQuiet_nil ?_
  rintro _ ⟨y, rfl⟩
  have HG := Lib.hid (Gr.ofBelow (cs := []) y.h)
  clear k4 hne
  generalize y.w = w2 at *
  go_wp2_with fail
  exact bodyPost_ret (v := .tuple #[.int .i64 R, .int .i64 0]) (by simp [results, Tryz.results81, go_sem]) rfl ⟨rfl, HG.out⟩
end
section
variable {w w' : World} {A : FlA} {a : DevA} {C : CfgZ} {B : Nat → BkS} {m : Nat} {j c : Nat → Nat} {D : DevS} {cc : Nat}
theorem fwhere_in (l : Nat) (h : FlIs w A a C B m j c) (hl : l < cR C * cL C) :
    Calls Tryz.prog 41 #[.pointer (some ⟨A.fb, 0, none⟩), .int .i64 (l : Int)] w fun e w' => e = .returned (.tuple #[.int .i64 (placeP (bankR (regC C (qL C l))) (B (qL C l)) (slotJ (regC C (qL C l)) (j (qL C l)) (iL C l))), .int .i64 0]) ∧ Gr [] w w' := by
  have HF := Lib.hid (ffind_in l h hl)
  obtain ⟨hq, hi⟩ := qi_in h.ok hl
  have HW := Lib.hid (fun W (g : Gr [] w W) => rgwhere9 (iL C l) (by rw [(h.ok.reg hq).2.2.2.1]; exact hi) ((h.gr0 g).rg (qL C l) hq))
  obtain ⟨R, hR⟩ : ∃ R, R = placeP (bankR (regC C (qL C l))) (B (qL C l)) (slotJ (regC C (qL C l)) (j (qL C l)) (iL C l)) := ⟨_, rfl⟩
  rw [← hR] at HW ⊢
  unfold qL iL at HW
  clear h hl hR hq hi
  generalize A.kb (l / cL C) = kb at *
  generalize toC C (l / cL C) (l % cL C) = t at *
  go_enter Tryz.func41, Tryz.ntmps41
  go_wp2_with fail
  with_reducible refine HF.out.mono ?_
  rintro e w2 ⟨rfl, g2⟩
  have HG := Lib.hid g2
  clear g2
  go_wp2_with fail
  with_reducible refine (HW.out _ HG.out).mono ?_
  rintro e w3 ⟨rfl, g3⟩
  have HG3 := Lib.hid (HG.out.trans g3)
  clear g3
  go_wp2_with fail
  exact bodyPost_ret (v := .tuple #[.int .i64 R, .int .i64 0]) (by simp [results, Tryz.results41, go_sem]) rfl ⟨rfl, HG3.out⟩
end
end Go.Proofs.YtefmbchebobceaaGreat

/-
  Layer 9: a list at work, told by what its lines have.
-/
namespace Go.Proofs.YtefmbchebobceaaGreat
open Go.RowKit
set_option linter.unusedVariables false

section
variable {w w' : World} {A : FlA} {a : DevA} {C : CfgZ} {g : Bool} {F F' : Nat → Nat → Nat} {V : FlV} {N : Nat}
theorem FL.where (h : FL C A a g F V N w) (l : Nat) (hl : l < cR C * cL C) :
    Calls Tryz.prog 41 #[.pointer (some ⟨A.fb, 0, none⟩), .int .i64 (l : Int)] w fun e w' => e = .returned (.tuple #[.int .i64 (V.W l : Int), .int .i64 0]) ∧ Gr [] w w' := by
  obtain ⟨ok, D, B, j, c, h1, h2, h3⟩ := h
  have := fwhere_in l h2 hl
  rw [(h1.pos ok hl).1] at this
  exact this
/-- A list is opened. -/
theorem fl_open {D : DevS} {B : Nat → BkS} {j : Nat → Nat} (hC : OkC C) (h : FlD C g F V N D B j) (hN : N < 500000000) (h3 : DevIs w a D) :
    Calls Tryz.prog 46 #[.pointer (some ⟨a.bd, 0, none⟩)] w fun e w' => ∃ A : FlA, e = .returned (.tuple #[.pointer (some ⟨A.fb, 0, none⟩), .int .i64 0]) ∧ FL C A a g F V N w' ∧ (∀ x ∈ A.all (cR C), w.heap.size ≤ x) ∧ Gr [] w w' := by
  obtain ⟨G, L, hG⟩ := h.ls
  refine (fopen_ok h3 hC h.fit h.calm L (fun q hq => by have := h.mv q hq; omega)).mono ?_
  rintro e w2 ⟨A, rfl, f2, n2, g2⟩
  exact ⟨A, rfl, ⟨hC, D, B, j, _, h, f2.moreN (by omega), h3.gr0 g2⟩, n2, g2⟩
end
end Go.Proofs.YtefmbchebobceaaGreat

/-
  Layer 9: the law's full, its examples.
-/
namespace Go.Proofs.YtefmbchebobceaaGreat
open Go.RowKit
set_option linter.unusedVariables false

theorem nought_word {k : Nat} (h : k < 8) : wdL (fullS ⟨#[]⟩).data.toList k = 0 := by
  rcases (show k = 0 ∨ k = 1 ∨ k = 2 ∨ k = 3 ∨ k = 4 ∨ k = 5 ∨ k = 6 ∨ k = 7 by omega) with rfl | rfl | rfl | rfl | rfl | rfl | rfl | rfl <;> decide +kernel
end Go.Proofs.YtefmbchebobceaaGreat

/-
  A list at work on a device that may lose its power (unless cm) or whose lines may be bad (unless g).
-/
namespace Go.Proofs.YtefmbchebobceaaGreat
open Go.RowKit
set_option linter.unusedVariables false

section
variable {P : PlanR} {D : DevS} {B : BkS} {j i0 : Nat} {F : Nat → Nat → Nat}
end
section
variable {C : CfgZ} {g cm : Bool} {F F' : Nat → Nat → Nat} {V : FlV} {N : Nat} {D E : DevS} {B : Nat → BkS} {j : Nat → Nat} {l : Nat} {e : Int} {G0 : Int → (Nat → Nat) → Prop} {B' : BkS} {j' N' : Nat} {H : Nat → Nat} {Gf : Nat → Nat → Nat → Nat}
end
section
variable {w w' : World} {A : FlA} {a : DevA} {C : CfgZ} {g cm : Bool} {F F' : Nat → Nat → Nat} {V : FlV} {N : Nat}
/-- A list is opened. -/
theorem flx_open {D : DevS} {B : Nat → BkS} {j : Nat → Nat} (hC : OkC C) (h : FlD C g F V N D B j) (hN : N < 500000000) (h3 : DevIs w a D) :
    Calls Tryz.prog 46 #[.pointer (some ⟨a.bd, 0, none⟩)] w fun e w' => ∃ A : FlA, e = .returned (.tuple #[.pointer (some ⟨A.fb, 0, none⟩), .int .i64 0]) ∧ FLx C A a g true F V N w' ∧ (∀ x ∈ A.all (cR C), w.heap.size ≤ x) ∧ Gr [] w w' := by
  refine (fl_open hC h hN h3).mono ?_
  rintro e w2 ⟨A, rfl, f, n, g⟩
  exact ⟨A, rfl, .of f, n, g⟩
end
end Go.Proofs.YtefmbchebobceaaGreat

/-
  Layer 10: pages at work, whatever comes: find, has, Len, Read, spot.
-/
namespace Go.Proofs.YtefmbchebobceaaGreat
open Go.RowKit
set_option linter.unusedVariables false

section
variable {w w' : World} {X : HtA} {A : FlA} {a : DevA} {C : CfgZ} {F : Nat → Nat → Nat} {V : FlV} {gd cm : Bool} {N lim : Nat} {S : HtS}
theorem gread_in (h : HgIs w X A a C gd cm F V N lim S) (g k : Nat) (hg : g < pgC C) (hk : k < 8) : Calls Tryz.prog 24 #[.pointer (some ⟨X.pb, 0, none⟩), .int .i64 (g : Int), .int .i64 (k : Int)] w fun e w' => e = .returned (.tuple #[.string (lnF F (8 * S.fr g + k)), .int .i64 0]) ∧ Gr [] w w' := by
  have HF := Lib.hid (gfind_in h g k hg hk)
  have c0 := h.hc.1
  have n := pg_nums h.fl.ok h.pos
  have hf := (h.inv.lt g hg).2
  have HR := Lib.hid (h.fl.read (8 * S.fr g + k) (by omega))
  generalize 8 * S.fr g + k = l at *
  generalize lnF F l = T at *
  clear h n hf
  go_enter Tryz.func24, Tryz.ntmps24
  go_wp2_with fail
  refine HF.out.mono ?_
  rintro e w2 ⟨rfl, rfl⟩
  go_wp2_with fail
  refine HR.out.mono ?_
  rintro e w3 ⟨rfl, g3⟩
  have HG := Lib.hid g3
  clear g3
  go_wp2_with fail
  go_ret2
  exact ⟨rfl, HG.out⟩
end
end Go.Proofs.YtefmbchebobceaaGreat

/-
  Layer 10: Write, whatever comes; pages told by what they read.
-/
namespace Go.Proofs.YtefmbchebobceaaGreat
open Go.RowKit
set_option linter.unusedVariables false

section
variable {w w' : World} {X : HtA} {A : FlA} {a : DevA} {C : CfgZ} {gd cm : Bool} {F F' : Nat → Nat → Nat} {V V' : FlV} {N N' lim : Nat} {S : HtS}
variable {Y : Nat → Nat → Nat → Nat}
theorem HLg.more (h : HLg C X A a gd cm lim Y N w) (hN : N ≤ N') : HLg C X A a gd cm lim Y N' w := by
  obtain ⟨l1, l2, F, V, S, h1, h2⟩ := h
  exact ⟨l1, l2, F, V, S, h1.more hN, h2⟩
theorem HLg.len (h : HLg C X A a gd cm lim Y N w) : Calls Tryz.prog 19 #[.pointer (some ⟨X.pb, 0, none⟩)] w fun e w' => e = .returned (.int .i64 (pgC C : Int)) ∧ w' = w := by
  obtain ⟨l1, l2, F, V, S, h1, h2⟩ := h
  exact glen_any h1
/-- What a page's line reads. -/
theorem HLg.read (h : HLg C X A a gd cm lim Y N w) (g k : Nat) (hg : g < pgC C) (hk : k < 8) : ∃ T : ByteArray, T.size = 64 ∧ (∀ m, m < 8 → wdL T.data.toList m = Y g k m) ∧ Calls Tryz.prog 24 #[.pointer (some ⟨X.pb, 0, none⟩), .int .i64 (g : Int), .int .i64 (k : Int)] w fun e w' => e = .returned (.tuple #[.string T, .int .i64 0]) ∧ Gr [] w w' := by
  obtain ⟨l1, l2, F, V, S, h1, h2⟩ := h
  have n := pg_nums h1.fl.ok h1.pos
  have hf := (h1.inv.lt g hg).2
  obtain ⟨e1, e2⟩ := h1.fl.size (8 * S.fr g + k) (by omega)
  exact ⟨_, e1, fun m hm => (e2 m hm).trans (h2 g k m hg hk hm), gread_in h1 g k hg hk⟩
end
end Go.Proofs.YtefmbchebobceaaGreat

/-
  Maps keyed by a pair of ints ([2]int), as functions of the pair: look-up, store.
-/
namespace Go.Proofs.YtefmbchebobceaaGreat
open Go.RowKit
open Go.Maps (Keyed has)

section
variable {P : Program} {k e t : TypeId} {α : Type} {E : EltLaw P e α} {w w' : World} {b n : Nat} {f : Int → Int → Option α}
theorem MapP.gr0 (h : MapP E k w b n f) (g : Gr [] w w') : MapP E k w' b n f := h.gr g (by simp)
theorem MapP.look_ok (h : MapP E k w b n f) (K : PairKey P k) (ht : P.underlying t = some (.map k e)) {x y : Int} (hx : WfZ x) (hy : WfZ y) :
    (Instr.lookup t (.map (some b)) (.agg #[.int .i64 x, .int .i64 y]) true).run P w = .ok (.tuple #[E.val ((f x y).getD E.zero), .bool (f x y).isSome]) w := by
  obtain ⟨D, h, q⟩ := h
  obtain ⟨v, ps, hrun, hv⟩ := h.look_ok K.keyed ht (E.zero_run w) (E.R_mk E.zero) (K.of x y hx hy)
  obtain ⟨a, rfl, ha⟩ := E.R_inv _ _ hv
  rw [hrun, (q x y hx hy).1]
  have h2 := (q x y hx hy).2 (E.enc E.zero)
  injection ha with ha _
  rw [ha] at h2
  congr 4
  cases c : f x y with
  | none => rw [c] at h2; exact congrArg E.val (E.enc_inj _ _ h2)
  | some x => rw [c] at h2; exact congrArg E.val (E.enc_inj _ _ h2)
end
section
variable {P : Program} {k e t : TypeId} {α : Type} {E : EltLaw P e α} {w : World} {b n : Nat} {f : Int → Int → Option α} {ops : Array Oper} {rest : List Oper} {o : Oper} {a : Act} {Q : Exit → Act → World → Prop}
end
end Go.Proofs.YtefmbchebobceaaGreat

/-
  HotTorn, HotKeeps: texts of pages, maps of texts by pairs, a fuse, what a Boot leaves, Open behind it.
-/
namespace Go.Proofs.YtefmbchebobceaaGreat
open Go.RowKit
set_option linter.unusedVariables false

section
variable {w w' : World} {X : HtA} {A : FlA} {a : DevA} {C : CfgZ} {gd cm : Bool} {F F' : Nat → Nat → Nat} {V V' : FlV} {c : Nat → Nat} {N N' lim : Nat} {S : HtS} {Y : Nat → Nat → Nat → Nat}
theorem HLg.text (h : HLg C X A a gd cm lim Y N w) (g k : Nat) (hg : g < pgC C) (hk : k < 8) : (tY Y g k).size = 64 ∧ (∀ m, m < 8 → wdL (tY Y g k).data.toList m = Y g k m) ∧ Calls Tryz.prog 24 #[.pointer (some ⟨X.pb, 0, none⟩), .int .i64 (g : Int), .int .i64 (k : Int)] w fun e w' => e = .returned (.tuple #[.string (tY Y g k), .int .i64 0]) ∧ Gr [] w w' := by
  obtain ⟨T, h1, h2, h3⟩ := h.read g k hg hk
  rw [tY_is h1 h2]
  exact ⟨h1, h2, h3⟩
end
end Go.Proofs.YtefmbchebobceaaGreat

/-
  Layer 10: load, on a device whose lines may be bad.
-/
namespace Go.Proofs.YtefmbchebobceaaGreat
open Go.RowKit
set_option linter.unusedVariables false

/-- n pages are taken in. -/
structure LgI (w0 : World) (A : FlA) (a : DevA) (C : CfgZ) (gd : Bool) (F : Nat → Nat → Nat) (V : FlV) (N lim pb hb tb : Nat) (fr mv : Nat → Nat) (n : Nat) (v : Value) (wr : World) : Prop where
  fl : FLx C A a gd true F V N wr
  head : Holds wr pb (ldRow A C lim hb tb v) 110
  own : wr.ownsRow w0.heap.size 114 2 v n (plL fr mv n)
  hts : Holds wr hb (rowOf (fun _ => .int .i64 0) (pgC C)) 3
  tks : ∃ (cur : Array Value) (tk : Nat → Bool), Holds wr tb cur 4 ∧ (∀ q, q < frmC C → cur[q]? = some (.bool (tk q))) ∧ ∀ q, q < frmC C → (tk q = true ↔ (q < tbC C ∨ ∃ g, g < n ∧ fr g = q))
  lo : pb < w0.heap.size ∧ hb < w0.heap.size ∧ tb < w0.heap.size ∧ ∀ x ∈ A.all (cR C) ++ a.all, x < w0.heap.size
  nd : pb ≠ hb ∧ pb ≠ tb ∧ hb ≠ tb
  na : pb ∉ A.all (cR C) ++ a.all ∧ hb ∉ A.all (cR C) ++ a.all ∧ tb ∉ A.all (cR C) ++ a.all
  gr : Gr [pb, tb] w0 wr
section
variable {w0 w1 w2 w6 w w' wr : World} {A : FlA} {a : DevA} {C : CfgZ} {F : Nat → Nat → Nat} {V : FlV} {gd : Bool} {N lim pb hb tb n g cp q : Nat} {fr mv : Nat → Nat} {v : Value}
theorem LgI.gr0 (h : LgI w0 A a C gd F V N lim pb hb tb fr mv n v wr) (k : Gr [] wr w') : LgI w0 A a C gd F V N lim pb hb tb fr mv n v w' := by
  obtain ⟨cur, tk, q1, q2, q3⟩ := h.tks
  exact ⟨h.fl.gr0 k, h.head.gr0 k, own_gr0 h.own k, h.hts.gr0 k, ⟨cur, tk, q1.gr0 k, q2, q3⟩, h.lo, h.nd, h.na, h.gr.next0 k⟩
/-- A page's frame is taken. -/
structure LgT (w0 : World) (A : FlA) (a : DevA) (C : CfgZ) (gd : Bool) (F : Nat → Nat → Nat) (V : FlV) (N lim pb hb tb : Nat) (fr mv : Nat → Nat) (n : Nat) (v : Value) (wr : World) : Prop where
  fl : FLx C A a gd true F V N wr
  head : Holds wr pb (ldRow A C lim hb tb v) 110
  own : wr.ownsRow w0.heap.size 114 2 v n (plL fr mv n)
  hts : Holds wr hb (rowOf (fun _ => .int .i64 0) (pgC C)) 3
  tks : ∃ (cur : Array Value) (tk : Nat → Bool), Holds wr tb cur 4 ∧ (∀ q, q < frmC C → cur[q]? = some (.bool (tk q))) ∧ ∀ q, q < frmC C → (tk q = true ↔ (q < tbC C ∨ ∃ g, g < n + 1 ∧ fr g = q))
  lo : pb < w0.heap.size ∧ hb < w0.heap.size ∧ tb < w0.heap.size ∧ ∀ x ∈ A.all (cR C) ++ a.all, x < w0.heap.size
  nd : pb ≠ hb ∧ pb ≠ tb ∧ hb ≠ tb
  na : pb ∉ A.all (cR C) ++ a.all ∧ hb ∉ A.all (cR C) ++ a.all ∧ tb ∉ A.all (cR C) ++ a.all
  gr : Gr [pb, tb] w0 wr
theorem LgI.take (h : LgI w0 A a C gd F V N lim pb hb tb fr mv n v wr) : LgT w0 A a C gd F V N lim pb hb tb fr mv n v (wr.setCell ⟨tb, fr n, none⟩ (.bool true)) := by
  obtain ⟨cur, tk, q1, q2, q3⟩ := h.tks
  have gr : Gr [tb] wr (wr.setCell ⟨tb, fr n, none⟩ (.bool true)) := (Gr.refl [tb] wr).setCell (p := ⟨tb, fr n, none⟩) (.inl (by simp)) _
  refine ⟨h.fl.gr gr (fun x hx e => ?_), h.head.far (a := ⟨tb, fr n, none⟩) h.nd.2.1 _, own_gr h.own gr (fun b hb e => ?_), h.hts.far (a := ⟨tb, fr n, none⟩) h.nd.2.2 _, ⟨_, fun q => if q = fr n then true else tk q, q1.set (fr n) _, fun q hq => ?_, fun q hq => ?_⟩, h.lo, h.nd, h.na, h.gr.trans (gr.mono (by simp))⟩
  · have : x = tb := by simpa using e
    exact h.na.2.2 (this ▸ hx)
  · have h1 := (h.own.lt b hb).1
    have h2 := h.lo.2.2.1
    have : b = tb := by simpa using e
    omega
  · have v0 := q2 q hq
    have b0 := (Array.getElem?_eq_some_iff.1 v0).1
    rw [Array.getElem?_setIfInBounds]
    show _ = some (Value.bool (if q = fr n then true else tk q))
    by_cases e : q = fr n
    · rw [if_pos e.symm, if_pos e, if_pos (by omega)]
    · rw [if_neg (fun e2 => e e2.symm), if_neg e]
      exact v0
  · show (if q = fr n then true else tk q) = true ↔ _
    by_cases e : q = fr n
    · rw [if_pos e]
      exact ⟨fun _ => .inr ⟨n, by omega, e.symm⟩, fun _ => rfl⟩
    · rw [if_neg e, q3 q hq]
      constructor
      · rintro (x | ⟨g, hg, x⟩)
        · exact .inl x
        · exact .inr ⟨g, by omega, x⟩
      · rintro (x | ⟨g, hg, x⟩)
        · exact .inl x
        · refine .inr ⟨g, ?_, x⟩
          have : g ≠ n := fun e2 => e (by rw [← x, e2])
          omega
theorem LgT.snoc (h : LgT w0 A a C gd F V N lim pb hb tb fr mv n v w1) (g1 : Gr [] w1 w2) (hown : w6.ownsRow w0.heap.size 114 2 (.slice (some ⟨g, 0, none⟩) (n + 1) cp) (n + 1) (plL fr mv n ++ [.int .i64 (fr n : Int), .int .u32 (mv n : Int)]))
    (hg : w2.grownBy w6 v.ownBlock) : LgI w0 A a C gd F V N lim pb hb tb fr mv (n + 1) (.slice (some ⟨g, 0, none⟩) (n + 1) cp) (w6.setCell ⟨pb, 5, none⟩ (.slice (some ⟨g, 0, none⟩) (n + 1) cp)) := by
  have hlr : ∀ b, v.ownBlock = some b → w0.heap.size ≤ b ∧ b < w1.heap.size := fun b e => h.own.lt b e
  obtain ⟨l1, l2, l3, l4⟩ := h.lo
  obtain ⟨cur, tk, q1, q2, q3⟩ := h.tks
  have hG : Gr (v.ownBlock.toList ++ [pb]) w1 (w6.setCell ⟨pb, 5, none⟩ (.slice (some ⟨g, 0, none⟩) (n + 1) cp)) := (((g1.of0 (cs := v.ownBlock.toList ++ [pb])).trans ((gr_grown9 hg).mono fun b hb => List.mem_append.2 (.inl hb)))).setCell (p := ⟨pb, 5, none⟩) (.inl (by simp)) _
  have key : ∀ x, x < w0.heap.size → x ≠ pb → x ∉ v.ownBlock.toList ++ [pb] := fun x hx hn e => by
    rcases List.mem_append.1 e with e | e
    · have := (hlr x (by simpa using e)).1; omega
    · exact hn (by simpa using e)
  refine ⟨h.fl.gr hG (fun x hx => key x (l4 x hx) (fun e => h.na.1 (e ▸ hx))), ?_, ?_, h.hts.gr hG (key hb l2 (fun e => h.nd.1 e.symm)), ⟨cur, tk, q1.gr hG (key tb l3 (fun e => h.nd.2.1 e.symm)), q2, q3⟩, h.lo, h.nd, h.na, ?_⟩
  · have hd : Holds w6 pb (ldRow A C lim hb tb v) 110 := (h.head.gr0 g1).gr (gr_grown9 hg) (fun e => by have := (hlr pb (by simpa using e)).1; omega)
    exact hd.set 5 (.slice (some ⟨g, 0, none⟩) (n + 1) cp)
  · rw [plL_snoc]
    exact own_gr hown ((Gr.refl [pb] w6).setCell (p := ⟨pb, 5, none⟩) (.inl (by simp)) _) (fun b hb e => by have := (hown.lt b hb).1; simp at e; omega)
  · refine h.gr.nextN hG fun x hx => ?_
    rcases List.mem_append.1 hx with e | e
    · exact .inr (hlr x (by simpa using e)).1
    · have : x = pb := by simpa using e
      exact .inl (by simp [this])
end
end Go.Proofs.YtefmbchebobceaaGreat

/-
  Layer 10: load, on a device whose lines may be bad.
-/
namespace Go.Proofs.YtefmbchebobceaaGreat
open Go.RowKit
set_option linter.unusedVariables false

section
variable {w0 w w' wr : World} {A : FlA} {a : DevA} {C : CfgZ} {F : Nat → Nat → Nat} {V : FlV} {gd : Bool} {N lim pb hb tb : Nat} {fr mv : Nat → Nat}
set_option maxRecDepth 100000 in
set_option maxHeartbeats 16000000 in
theorem gload_any (hp : 0 < pgC C) (ht : TbO C F fr mv) (h : LgI w A a C gd F V N lim pb hb tb fr mv 0 (.slice none 0 0) w) :
    Calls Tryz.prog 57 #[.pointer (some ⟨pb, 0, none⟩)] w fun e w' => ∃ v, e = .returned (.int .i64 0) ∧ LgI w A a C gd F V N lim pb hb tb fr mv (pgC C) v w' := by
  have hC := h.fl.ok
  obtain ⟨n1, n2, n3, n4, n5, n6⟩ := pg_nums hC hp
  obtain ⟨G, hG⟩ : ∃ G, G = pgC C := ⟨_, rfl⟩
  obtain ⟨H, hH⟩ : ∃ H, H = frmC C := ⟨_, rfl⟩
  have HN := Lib.hid (And.intro hG (And.intro hH (And.intro n1 (And.intro n2 (And.intro n5 n3)))))
  have HT := Lib.hid ht
  have H0 := Lib.hid h
  have hG7 : G ≤ 2048 := by omega
  have hH7 : H ≤ 2048 := by omega
  have c1 : w.cell? ⟨pb, 1, none⟩ = some (.int .i64 (G : Int)) := by rw [hG]; exact h.head.cell 1
  obtain ⟨ip, hip, hpz0, hpz1, hpz2⟩ := info_parts infoPlace10
  have HIP := Lib.hid (And.intro hip (And.intro hpz0 (And.intro hpz1 hpz2)))
  clear n1 n2 n3 n4 n5 n6 hG hH ht h hip hpz0 hpz1 hpz2
  go_enter Tryz.func57, Tryz.ntmps57
  go_wp2_with fail
  clear c1
  go_loopw [15] (fun iv wr => ∃ (n : Nat) (v : Value), iv = .int .i64 (n : Int) ∧ n ≤ G ∧ Hid (LgI w A a C gd F V N lim pb hb tb fr mv n v wr)) (fun iv _ => G - (intOf iv).toNat)
  case atStart => exact ⟨0, _, rfl, by omega, H0⟩
  case round =>
    clear H0
    obtain ⟨n, v, rfl, hn, HS⟩ := hrel
    by_cases hnG : n < G
    · as_aux_lemma =>
        have inG : (n : Int) < (G : Int) := by omega
        have HI := Lib.hid hnG
        have hng : n < pgC C := by rw [← HN.out.1]; exact hnG
        have hl8 : n / 8 < cR C * cL C := by have := HN.out; omega
        have HRd := Lib.hid (HS.out.fl.read (n / 8) hl8)
        obtain ⟨sz, wd⟩ := HS.out.fl.size (n / 8) hl8
        obtain ⟨T, hT⟩ : ∃ T, T = lnF F (n / 8) := ⟨_, rfl⟩
        rw [← hT] at HRd sz wd
        have hk8 : n % 8 < 8 := Nat.mod_lt _ (by omega)
        have HGt := Lib.hid (fun W => get_at T sz (n % 8) hk8 W)
        rw [wd (n % 8) hk8, HT.out.tab n hng] at HGt
        obtain ⟨lt1, lt2⟩ := HT.out.lt n hng
        have mvn := HT.out.mv n hng
        have hH7' : fr n < 65536 := by have := HN.out; omega
        have key48 : mv n * 65536 + fr n < 281474976710656 := by omega
        have HGd := Lib.hid (fun W => guarded_yes (guardN (mv n * 65536 + fr n)) W (guardN_lt _ (by omega)) (guard_guard key48))
        rw [low_guard key48] at HGd
        have HFa := Lib.hid (fun W => field_any (mv n * 65536 + fr n) 0 16 W (by omega) (by omega) (by omega))
        have HFb := Lib.hid (fun W => field_any (mv n * 65536 + fr n) 16 32 W (by omega) (by omega) (by omega))
        rw [f_a, show (mv n * 65536 + fr n) % 65536 = fr n by omega] at HFa
        rw [f_p, show (mv n * 65536 + fr n) / 65536 % 4294967296 = mv n by omega] at HFb
        obtain ⟨cur, tk, t1, t2, t3⟩ := HS.out.tks
        have tkf : tk (fr n) = false := by
          cases e : tk (fr n) with
          | false => rfl
          | true =>
            rcases (t3 _ lt2).1 e with q | ⟨g, hg, q⟩
            · omega
            · exact absurd (HT.out.inj g n (by omega) hng q) (by omega)
        have HTK := Lib.hid (fun W (g : Gr [] wr W) => show W.cell? ⟨pb, 7, none⟩ = some (.slice (some ⟨tb, 0, none⟩) (frmC C) (frmC C)) ∧ W.cell? ⟨tb, fr n, none⟩ = some (.bool false) ∧ W.frozen? ⟨tb, fr n, none⟩ = false from ⟨(HS.out.gr0 g).head.cell 7, ((t1.gr0 g).cell (fr n)).trans ((t2 _ lt2).trans (by rw [tkf])), (t1.gr0 g).frozen (fr n)⟩)
        rw [← HN.out.2.1] at HTK
        have c0 : wr.cell? ⟨pb, 0, none⟩ = some (.pointer (some ⟨A.fb, 0, none⟩)) := HS.out.head.cell 0
        have htake := Lib.hid (fun W (g : Gr [] wr W) => (HS.out.gr0 g).take)
        generalize guardN (mv n * 65536 + fr n) = GK at *
        generalize mv n * 65536 + fr n = KK at *
        obtain ⟨f, hf⟩ : ∃ f, f = fr n := ⟨_, rfl⟩
        obtain ⟨m, hm⟩ : ∃ m, m = mv n := ⟨_, rfl⟩
        rw [← hf] at HFa HTK htake lt2
        rw [← hm] at HFb
        have HFM := Lib.hid (And.intro hf hm)
        have e1 : (n : Int).tdiv 8 = ((n / 8 : Nat) : Int) := (Int.ofNat_tdiv n 8).symm
        have e2 : (n : Int).tmod 8 = ((n % 8 : Nat) : Int) := (Int.ofNat_tmod n 8).symm
        obtain ⟨l, hl⟩ : ∃ l, l = n / 8 := ⟨_, rfl⟩
        obtain ⟨k, hk⟩ : ∃ k, k = n % 8 := ⟨_, rfl⟩
        obtain ⟨k64, hk64⟩ : ∃ x, x = k * 64 := ⟨_, rfl⟩
        obtain ⟨k8, hk8'⟩ : ∃ x, x = 8 * k := ⟨_, rfl⟩
        rw [← hl] at e1 HRd
        rw [← hk] at e2 HGt hk8
        rw [← hk8'] at HGt
        have q1 : IntKind.i64.wrap (l : Int) = (l : Int) := IntWalk.i64_in _ (by omega)
        have q2 : IntKind.i64.wrap (k : Int) = (k : Int) := IntWalk.i64_in _ (by omega)
        have q3 : IntKind.i64.wrap ((k : Int) * 64) = (k64 : Int) := by rw [show (k : Int) * 64 = (k64 : Int) by omega]; exact IntWalk.i64_in _ (by omega)
        have q4 : (k64 : Int).tdiv 8 = (k8 : Int) := by rw [Int.tdiv_eq_ediv_of_nonneg (by omega)]; omega
        have q5 : IntKind.i64.wrap (k8 : Int) = (k8 : Int) := IntWalk.i64_in _ (by omega)
        have q6 : IntKind.i64.wrap (f : Int) = (f : Int) := IntWalk.i64_in _ (by omega)
        have q7 : IntKind.u32.wrap (m : Int) = (m : Int) := by rw [IntKind.wrap_u32]; omega
        have sz0 : k8 ≤ T.size := by omega
        have sz1 : T.size ≤ 9223372036854775807 := by omega
        have f1 : (f : Int) < (H : Int) := by have := HN.out.2.1; omega
        have f0 : (0 : Int) ≤ (f : Int) := by omega
        have f2 : ¬ (H : Int) ≤ (f : Int) := by omega
        have f3 : decide (H ≤ f) = false := decide_eq_false (by omega)
        clear hT wd lt1 mvn key48 t1 t2 t3 tkf hf hm hl hk hk64 hk8' hk8 hl8 hng lt2 hH7' sz
        go_wp2_with fail
        refine HRd.out.mono ?_
        rintro e w2 ⟨rfl, g2⟩
        have HG2 := Lib.hid g2
        clear g2 c0
        go_wp2_with fail
        refine (HGt.out _).mono ?_
        rintro e w3 ⟨rfl, rfl⟩
        go_wp2_with fail
        refine (HGd.out _).mono ?_
        rintro e w4 ⟨rfl, b4⟩
        have HG4 := Lib.hid (HG2.out.trans (Gr.ofBelow (cs := []) b4))
        clear b4 HG2
        go_wp2_with fail
        refine (HFa.out _).mono ?_
        rintro e w5 ⟨rfl, rfl⟩
        obtain ⟨k7, kt, kz⟩ := HTK.out _ HG4.out
        go_wp2_with fail
        have H5 := Lib.hid (htake.out _ HG4.out)
        clear kt kz k7 HG4 HTK HGt HGd HFa HRd
        generalize w4.setCell ⟨tb, f, none⟩ (.bool true) = w6 at *
        obtain ⟨ao, cap, hv⟩ := own_form9 H5.out.own
        subst hv
        have s0 : w6.cell? ⟨pb, 5, none⟩ = some (.slice ao n cap) := H5.out.head.cell 5
        have s0d : w6.drew.cell? ⟨pb, 5, none⟩ = some (.slice ao n cap) := H5.out.head.cell 5
        have s0a : (w6.drew.alloc (Obj.cells #[.int .i64 (f : Int), .int .u32 (m : Int)] 114)).cell? ⟨pb, 5, none⟩ = some (.slice ao n cap) := (H5.out.head.gr0 (((Gr.refl [] w6).drew).alloc _)).cell 5
        have s0b : (w6.alloc (Obj.cells #[.int .i64 (f : Int), .int .u32 (m : Int)] 114)).cell? ⟨pb, 5, none⟩ = some (.slice ao n cap) := (H5.out.head.gr0 ((Gr.refl [] w6).alloc _)).cell 5
        go_region_law ((first
          | (go_simp; go_at_call 108; (with_reducible refine (HFb.out _).mono ?_); rintro rr w5 ⟨rfl, rfl⟩)
          | (have hT3 := H5.out.own.alloc (Obj.cells #[.int .i64 (f : Int), .int .u32 (m : Int)] 114); have hn3 := World.news_of_block (Holds.new w6 #[.int .i64 (f : Int), .int .u32 (m : Int)] 114); have hbs : w.heap.size ≤ (w6.alloc (Obj.cells #[.int .i64 (f : Int), .int .u32 (m : Int)] 114)).heap.size := (by have := H5.out.gr.size; rw [World.size_alloc]; omega); refine step_append_lies _ rfl _ _ 108 rfl w.heap.size 114 ip _ 2 16 Tryz.underlying108 HIP.out.1 HIP.out.2.1 HIP.out.2.2.1 HIP.out.2.2.2 rfl (by decide) (.slice ao n cap) n (plL fr mv n) rfl hT3 ⟨w6.heap.size, 0, none⟩ 1 1 [.int .i64 (f : Int), .int .u32 (m : Int)] rfl rfl hn3 (one_spot10 _ _) Nat.one_pos (by unfold maxLen; omega) (by omega) hbs _ rfl ?_; intro g6 cp6 w7 hown6 hgrow6 hat6 hlt6; have gA := ((Gr.refl [] w6).alloc (Obj.cells #[.int .i64 (f : Int), .int .u32 (m : Int)] 114)).drew; have hlr : ∀ b, (Value.slice ao n cap).ownBlock = some b → w.heap.size ≤ b := (fun b e => (H5.out.own.lt b e).1); have hd7 := (H5.out.head.gr0 gA).gr (gr_grown9 hgrow6) (fun e => by have h1 := hlr pb (by simpa using e); have h2 := H5.out.lo.1; omega); have s7 : w7.cell? ⟨pb, 5, none⟩ = some (.slice ao n cap) := hd7.cell 5; have f7 := hd7.frozen 5; have HR7 := Lib.hid (H5.out.snoc gA (by rw [← HFM.out.1, ← HFM.out.2]; exact hown6) hgrow6); clear hown6 hgrow6 hat6 hlt6 gA hlr hd7 hT3 hn3 hbs)))
        all_goals
          go_wp2_with fail
          go_roundw
          case rel => exact ⟨n + 1, _, by go_num, HI.out, HR7⟩
          case measure => simp [intOf]; omega
    · obtain rfl : n = G := by omega
      have ij : ¬ ((n : Int) < (n : Int)) := by omega
      clear hnG hn
      go_wp2_with fail
      go_ret
      have e := HN.out.1
      rw [← e]
      exact ⟨rfl, v, HS.out⟩
end
end Go.Proofs.YtefmbchebobceaaGreat
