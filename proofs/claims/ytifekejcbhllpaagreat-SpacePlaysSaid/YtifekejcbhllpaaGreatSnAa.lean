/-
  SnAa: Base, PmB, FlR, FlVc, HuA, HuL, SqW, SqT.
-/
import Derived.Test.YtifekejcbhllpaaGreatSkAe
import Derived.Test.YtifekejcbhllpaaGreatSkAf
import Derived.Test.YtifekejcbhllpaaGreatSkAg
import Derived.Test.YtifekejcbhllpaaGreatSkAa
import Derived.Test.YtifekejcbhllpaaGreatSkAb
import Derived.Test.YtifekejcbhllpaaGreatSkAc
import Derived.Test.YtifekejcbhllpaaGreatSkAd
import Derived.Test.YtifekejcbhllpaaGreatSkAh
import Derived.Test.YtifekejcbhllpaaGreatSkAi
import Derived.Test.YtifekejcbhllpaaGreatSkAj
import Derived.Test.YtifekejcbhllpaaGreatSkAk
import Derived.Test.YtifekejcbhllpaaGreatSkAl
import Derived.Test.YtifekejcbhllpaaGreatSkAn
import Derived.Test.YtifekejcbhllpaaGreatSkAo
import Derived.Test.YtifekejcbhllpaaGreatSkAm
import Derived.Test.YtifekejcbhllpaaGreatSkAp
import Derived.Test.YtifekejcbhllpaaGreatSkAq
import Derived.Test.YtifekejcbhllpaaGreatSkAr
import Derived.Test.YtifekejcbhllpaaGreatSkAt
import Derived.Test.YtifekejcbhllpaaGreatSkAu
import Derived.Test.YtifekejcbhllpaaGreatSkAs
import Derived.Test.YtifekejcbhllpaaGreatSkAv
import Derived.Test.YtifekejcbhllpaaGreatSkAw
import Derived.Test.YtifekejcbhllpaaGreatSkAx
import Derived.Test.YtifekejcbhllpaaGreatSkAy
import Derived.Test.YtifekejcbhllpaaGreatSkAz
import Derived.Test.YtifekejcbhllpaaGreatSkBa
import Derived.Test.YtifekejcbhllpaaGreatSkBb
import Derived.Test.YtifekejcbhllpaaGreatSkBc
import Derived.Test.YtifekejcbhllpaaGreatSkBd
import Derived.Test.YtifekejcbhllpaaGreatSkBe
import Derived.Test.YtifekejcbhllpaaGreatSkBf
import Derived.Test.YtifekejcbhllpaaGreatSkBg
import Derived.Test.YtifekejcbhllpaaGreatSkBh
import Derived.Test.YtifekejcbhllpaaGreatSkBi
import Derived.Test.YtifekejcbhllpaaGreatSkBj
import Derived.Test.YtifekejcbhllpaaGreatSkBk
import Derived.Test.YtifekejcbhllpaaGreatSkBl
import Derived.Test.YtifekejcbhllpaaGreatSkBm
import Derived.Test.YtifekejcbhllpaaGreatSkBn
import Derived.Test.YtifekejcbhllpaaGreatRows
import Derived.WalkKit
import Derived.Handy
import Derived.Lib.Hide
import Derived.Deep.QuietTactic
import Derived.BigQuiet
import Derived.KernelRfl
import Derived.Maps.RangeWalk
import Derived.Maps.OwnSet
import Derived.StillTailTactics
import Derived.IntWalk
import Derived.Deep.LoopGhost
import Derived.Laws.AppendOwn
import Derived.Shelf.SlIterI.Nil
import Derived.Shelf.SortM.Plain
import Derived.Shelf.SortM.SortNone
import Derived.Ground.GgzProg
import Derived.Ground.SlgmProg
import Derived.Lib.AppendStr
import Derived.Shelf.Strings.Repeat
import Derived.Ground.NamesProg
import Derived.Lib.Agree
import Derived.Deep.MidRow
import Derived.Deep.RegionHeld3
import Derived.Deep.CutBlock
import Derived.ProofKit
import Derived.OpenShut
import Derived.SizedLaws
import Derived.ChangeSlices
import Derived.Deep.Slices
import Derived.Deep.Grids
import Derived.Deep.RegionLaw
import Derived.Deep.AppendLies
import Derived.BigRegion
import Derived.Shelf.Strings.BuilderK
import Derived.WideKeyArr

set_option linter.unusedVariables false

/-
  What many texts share: worlds below a bound; max with 0; small arithmetic.
-/
namespace Go.Proofs.YtifekejcbhllpaaGreat
open Go.RowKit

def mx (y : Int) : Int := max 0 y
theorem mx_nonneg (y : Int) : 0 ≤ mx y := by unfold mx; omega
theorem max0 (P : Program) (ts : Array TypeId) (t : TypeId) (y : Int) (w : World) : (Builtin.max_ ts t #[.int .i64 0, .int .i64 y]).run P w = .ok (.int .i64 (mx y)) w := by
  rw [run_max_int2]
  have : (if y > 0 then y else 0) = mx y := by unfold mx; split <;> omega
  rw [this]
theorem natU64 {a : Int} (h : (Lit.int .u64 a).wf = true) : ∃ n : Nat, a = n ∧ n < 18446744073709551616 := by
  have := bounds_u64 h
  exact ⟨a.toNat, by omega, by omega⟩
end Go.Proofs.YtifekejcbhllpaaGreat

/-
  Calls of package pm that only read, and those that write one field or cell.
-/
namespace Go.Proofs.YtifekejcbhllpaaGreat
open Go.RowKit

/-! ### A field or a cell is written -/
section
variable {W : World} {a : DevA} {D : DevS}
theorem DevIs.setBad (h : DevIs W a D) (i : Nat) (x : Bool) : DevIs (W.setCell ⟨a.bg, i, none⟩ (.bool x)) a { D with bad := fun j => if j = i then x else D.bad j } := by
  obtain ⟨_, _, _, n4, _, _, n7, _, n9, n10⟩ := nd5 h.nd
  have g := grSet W a.bg i (.bool x)
  have r := h.bad.set i (.bool x)
  rw [rowOf_set] at r
  refine ⟨h.head.gr g (by simpa using n4), h.med.gr g (by simpa using n7), h.wear.gr g (by simpa using n10), ?_, h.buf.gr g (by simpa using n9), h.nd, ⟨h.ok.lo, h.ok.hi, h.ok.sup, h.ok.medB, h.ok.bufB, h.ok.fu⟩⟩
  have e : (fun j => if j = i then Value.bool x else Value.bool (D.bad j)) = fun j => Value.bool (if j = i then x else D.bad j) := by funext j; split <;> rfl
  rw [e] at r
  exact r
end

theorem break_in (a : DevA) (D : DevS) (i : Nat) (w : World) (h : DevIs w a D) (hi : i < D.n) : Calls Tryz.prog 21 #[.pointer (some ⟨a.bd, 0, none⟩), .int .i64 i] w fun e w' => e = .returned (.tuple #[]) ∧ DevIs w' a { D with bad := fun j => if j = i then true else D.bad j } ∧ Gr [a.bg] w w' := by
  have hh := hasLine_any a D w h i
  rw [decide_eq_true (by omega)] at hh
  have H := Lib.hid hh
  have c3 := h.c3
  have m := h.badAt hi
  have fr := h.bad.frozen i
  have hn := h.ok.hi
  have RR := Lib.hid (And.intro (h.setBad i true) (grSet w a.bg i (.bool true)))
  clear h hh
  obtain ⟨n, hn'⟩ : ∃ n, D.n = n := ⟨_, rfl⟩
  rw [hn'] at c3 hi hn
  clear hn'
  go_enter Tryz.func21, Tryz.ntmps21
  go_wp2_with (refine H.out.mono ?_; rintro e w' ⟨rfl, rfl⟩)
  go_returns
  exact ⟨rfl, RR.out.1, RR.out.2⟩
end Go.Proofs.YtifekejcbhllpaaGreat

/-
  Layer 9: Where, Read, Write, WriteWord of a list that there is.
-/
namespace Go.Proofs.YtifekejcbhllpaaGreat
open Go.RowKit
set_option linter.unusedVariables false

section
variable {w w' : World} {kb : Nat} {q : BkA} {a : DevA} {P : PlanR} {B : BkS} {m j c cc : Nat} {D : DevS}
set_option maxRecDepth 100000 in
set_option maxHeartbeats 8000000 in
theorem rgwhere9 (i : Nat) (hi : i < P.l) (h : RgIs w kb q a P B m j c) :
    Calls Tryz.prog 45 #[.pointer (some ⟨kb, 0, none⟩), .int .i64 (i : Int)] w fun e w' => e = .returned (.tuple #[.int .i64 (placeP (bankR P) B (slotJ P j i)), .int .i64 0]) ∧ Gr [] w w' := by
  have hz : inP (bankR P) (slotJ P j i) := by
    rw [slotJ_N P j i h.ok.l1]
    have := slotN_le (j := j) (i := i) h.ok.l1
    exact inR P (by omega) (by omega)
  have HF := Lib.hid (rfind_in i h hi)
  have HS := Lib.hid (fun W (g : Gr [] w W) => rslot_any i (h.gr0 g) hi)
  have HR := Lib.hid (fun W (g : Gr [] w W) => where_in (slotJ P j i) (h.bk.gr0 g) hz)
  obtain ⟨R, hR⟩ : ∃ R, R = placeP (bankR P) B (slotJ P j i) := ⟨_, rfl⟩
  rw [← hR] at HR ⊢
  have k4 := kp_cell (a := ⟨kb, 4, none⟩) h.c4
  have hne := kp_ne w
  clear h hi hR hz
  generalize slotJ P j i = z at *
  go_enter Tryz.func45, Tryz.ntmps45
  go_wp2_with fail
  refine HF.out.mono ?_
  rintro e w' ⟨rfl, rfl⟩
  go_wp2_with fail
  refine wp_region_kp (by kernel_rfl) (by kernel_rfl) ?_
  repeat (go_big_quiet_step ((rename_i x; first
    | exact kp_call x ((HS.out _ (Gr.ofBelow x.h)).mono fun _ _ q => ⟨q.1, q.2.below0⟩)
    | exact kp_call x ((HR.out _ (Gr.ofBelow x.h)).mono fun _ _ q => ⟨q.1, q.2.below0⟩))))
  with_reducible refine wpQuiet_nil ?_
  rintro _ ⟨y, rfl⟩
  have HG := Lib.hid (Gr.ofBelow (cs := []) y.h)
  clear k4 hne
  generalize y.w = w2 at *
  go_wp2_with fail
  exact bodyPost_ret (v := .tuple #[.int .i64 R, .int .i64 0]) (by simp [results, Tryz.results45, go_sem]) rfl ⟨rfl, HG.out⟩
end
section
variable {w w' : World} {A : FlA} {a : DevA} {C : CfgZ} {B : Nat → BkS} {m : Nat} {j c : Nat → Nat} {D : DevS} {cc : Nat}
theorem fwhere_in (l : Nat) (h : FlIs w A a C B m j c) (hl : l < cR C * cL C) :
    Calls Tryz.prog 20 #[.pointer (some ⟨A.fb, 0, none⟩), .int .i64 (l : Int)] w fun e w' => e = .returned (.tuple #[.int .i64 (placeP (bankR (regC C (qL C l))) (B (qL C l)) (slotJ (regC C (qL C l)) (j (qL C l)) (iL C l))), .int .i64 0]) ∧ Gr [] w w' := by
  have HF := Lib.hid (ffind_in l h hl)
  obtain ⟨hq, hi⟩ := qi_in h.ok hl
  have HW := Lib.hid (fun W (g : Gr [] w W) => rgwhere9 (iL C l) (by rw [(h.ok.reg hq).2.2.2.1]; exact hi) ((h.gr0 g).rg (qL C l) hq))
  obtain ⟨R, hR⟩ : ∃ R, R = placeP (bankR (regC C (qL C l))) (B (qL C l)) (slotJ (regC C (qL C l)) (j (qL C l)) (iL C l)) := ⟨_, rfl⟩
  rw [← hR] at HW ⊢
  unfold qL iL at HW
  clear h hl hR hq hi
  generalize A.kb (l / cL C) = kb at *
  generalize toC C (l / cL C) (l % cL C) = t at *
  go_enter Tryz.func20, Tryz.ntmps20
  go_wp2_with fail
  with_reducible refine HF.out.mono ?_
  rintro e w2 ⟨rfl, g2⟩
  have HG := Lib.hid g2
  clear g2
  go_wp2_with fail
  with_reducible refine (HW.out _ HG.out).mono ?_
  rintro e w3 ⟨rfl, g3⟩
  have HG3 := Lib.hid (HG.out.trans g3)
  clear g3
  go_wp2_with fail
  exact bodyPost_ret (v := .tuple #[.int .i64 R, .int .i64 0]) (by simp [results, Tryz.results20, go_sem]) rfl ⟨rfl, HG3.out⟩
end
end Go.Proofs.YtifekejcbhllpaaGreat

/-
  Layer 9: a list at work, told by what its lines have.
-/
namespace Go.Proofs.YtifekejcbhllpaaGreat
open Go.RowKit
set_option linter.unusedVariables false

section
variable {w w' : World} {A : FlA} {a : DevA} {C : CfgZ} {g : Bool} {F F' : Nat → Nat → Nat} {V : FlV} {N : Nat}
theorem FL.where (h : FL C A a g F V N w) (l : Nat) (hl : l < cR C * cL C) :
    Calls Tryz.prog 20 #[.pointer (some ⟨A.fb, 0, none⟩), .int .i64 (l : Int)] w fun e w' => e = .returned (.tuple #[.int .i64 (V.W l : Int), .int .i64 0]) ∧ Gr [] w w' := by
  obtain ⟨ok, D, B, j, c, h1, h2, h3⟩ := h
  have := fwhere_in l h2 hl
  rw [(h1.pos ok hl).1] at this
  exact this
/-- A list is opened. -/
theorem fl_open {D : DevS} {B : Nat → BkS} {j : Nat → Nat} (hC : OkC C) (h : FlD C g F V N D B j) (hN : N < 500000000) (h3 : DevIs w a D) :
    Calls Tryz.prog 55 #[.pointer (some ⟨a.bd, 0, none⟩)] w fun e w' => ∃ A : FlA, e = .returned (.tuple #[.pointer (some ⟨A.fb, 0, none⟩), .int .i64 0]) ∧ FL C A a g F V N w' ∧ (∀ x ∈ A.all (cR C), w.heap.size ≤ x) ∧ Gr [] w w' := by
  obtain ⟨G, L, hG⟩ := h.ls
  refine (fopen_ok h3 hC h.fit h.calm L (fun q hq => by have := h.mv q hq; omega)).mono ?_
  rintro e w2 ⟨A, rfl, f2, n2, g2⟩
  exact ⟨A, rfl, ⟨hC, D, B, j, _, h, f2.moreN (by omega), h3.gr0 g2⟩, n2, g2⟩
end
end Go.Proofs.YtifekejcbhllpaaGreat

/-
  A list at work on a device that may lose its power (unless cm) or whose lines may be bad (unless g).
-/
namespace Go.Proofs.YtifekejcbhllpaaGreat
open Go.RowKit
set_option linter.unusedVariables false

section
variable {P : PlanR} {D : DevS} {B : BkS} {j i0 : Nat} {F : Nat → Nat → Nat}
end
section
variable {C : CfgZ} {g cm : Bool} {F F' : Nat → Nat → Nat} {V : FlV} {N : Nat} {D E : DevS} {B : Nat → BkS} {j : Nat → Nat} {l : Nat} {e : Int} {G0 : Int → (Nat → Nat) → Prop} {B' : BkS} {j' N' : Nat} {H : Nat → Nat} {Gf : Nat → Nat → Nat → Nat}
end
section
variable {w w' : World} {A : FlA} {a : DevA} {C : CfgZ} {g cm : Bool} {F F' : Nat → Nat → Nat} {V : FlV} {N : Nat}
theorem FLx.fl (h : FLx C A a g true F V N w) : FL C A a g F V N w := by
  obtain ⟨ok, D, B, j, c, h1, lv, hc, h2, h3⟩ := h
  exact ⟨ok, D, B, j, c, by rw [calm_bare (hc rfl)] at h1; exact h1, h2, h3⟩
/-- A list is opened. -/
theorem flx_open {D : DevS} {B : Nat → BkS} {j : Nat → Nat} (hC : OkC C) (h : FlD C g F V N D B j) (hN : N < 500000000) (h3 : DevIs w a D) :
    Calls Tryz.prog 55 #[.pointer (some ⟨a.bd, 0, none⟩)] w fun e w' => ∃ A : FlA, e = .returned (.tuple #[.pointer (some ⟨A.fb, 0, none⟩), .int .i64 0]) ∧ FLx C A a g true F V N w' ∧ (∀ x ∈ A.all (cR C), w.heap.size ≤ x) ∧ Gr [] w w' := by
  refine (fl_open hC h hN h3).mono ?_
  rintro e w2 ⟨A, rfl, f, n, g⟩
  exact ⟨A, rfl, .of f, n, g⟩
end
end Go.Proofs.YtifekejcbhllpaaGreat

/-
  Layer 10: Write, whatever comes; pages told by what they read.
-/
namespace Go.Proofs.YtifekejcbhllpaaGreat
open Go.RowKit
set_option linter.unusedVariables false

section
variable {w w' : World} {X : HtA} {A : FlA} {a : DevA} {C : CfgZ} {gd cm : Bool} {F F' : Nat → Nat → Nat} {V V' : FlV} {N N' lim : Nat} {S : HtS}
variable {Y : Nat → Nat → Nat → Nat}
theorem HLg.pos (h : HLg C X A a gd cm lim Y N w) : 0 < pgC C ∧ OkC C := by
  obtain ⟨l1, l2, F, V, S, h1, h2⟩ := h
  exact ⟨h1.pos, h1.fl.ok⟩
end
end Go.Proofs.YtifekejcbhllpaaGreat

/-
  Layer 11: Write.
-/
namespace Go.Proofs.YtifekejcbhllpaaGreat
open Go.RowKit
set_option linter.unusedVariables false

section
variable {w w' : World} {X : HtA} {A : FlA} {a : DevA} {C : CfgZ} {gd cm : Bool} {N N' lim sb : Nat} {B : ByteArray}
theorem spwrite_out (h : HSp C X A a gd cm lim sb B N w) (k : Int) (b : ByteArray) (ho : errW B.size k (b.size : Int) = 3) : Calls Tryz.prog 11 #[.pointer (some ⟨sb, 0, none⟩), .int .i64 k, .string b] w fun e w' => e = .returned (.int .i64 3) ∧ w' = w := by
  have HW := Lib.hid (within_any h k (b.size : Int))
  rw [ho] at HW
  clear h ho
  go_enter Tryz.func11, Tryz.ntmps11
  go_wp2_with fail
  refine HW.out.mono ?_
  rintro e w2 ⟨rfl, rfl⟩
  go_wp2_with fail
  go_ret
  exact ⟨rfl, rfl⟩
end
end Go.Proofs.YtifekejcbhllpaaGreat

/-
  Layer 11: Write, the power failing too: each word old or new.
-/
namespace Go.Proofs.YtifekejcbhllpaaGreat
open Go.RowKit
set_option linter.unusedVariables false

/-- Each word is one of both. -/
def TwoY (C : CfgZ) (B U : ByteArray) (N : Nat) (F' : Nat → Nat → Nat) : Prop :=
  ∃ Z : Nat → Nat → Nat → Nat, PgY C Z N F' ∧ ∀ g k m, g < pgC C → k < 8 → m < 8 → Z g k m = wdL (lnQ B (8 * g + k)).data.toList m ∨ Z g k m = wdL (lnQ U (8 * g + k)).data.toList m
theorem splB_edge {B b : ByteArray} {K j L : Nat} (h : K + b.size ≤ B.size) (hj : j ≤ b.size) (he : (K + j) % 64 = 0 ∨ j = 0 ∨ j = b.size) (hL : 64 * L + 64 ≤ B.size) : lnQ (splB B K (b.extract 0 j)) L = lnQ B L ∨ lnQ (splB B K (b.extract 0 j)) L = lnQ (splB B K b) L := by
  rcases he with he | he | he
  · have s0 := ext_size (b := b) (j := 0) (j2 := j) hj (Nat.zero_le _)
    have z1 : (splB B K (b.extract 0 j)).size = B.size := splB_size (by omega)
    have z2 : (splB B K b).size = B.size := splB_size h
    unfold lnQ
    by_cases c : 64 * L + 64 ≤ K + j
    · refine .inr (bs_ext (by rw [ByteArray.size_extract, ByteArray.size_extract]; omega) fun i hi => ?_)
      rw [ByteArray.size_extract] at hi
      rw [bs_extract _ _ _ _ (by omega), bs_extract _ _ _ _ (by omega), splB_bs (by omega) (by omega), splB_bs h (by omega)]
      by_cases c1 : 64 * L + i < K
      · simp only [c1, if_true]
      · have c2 : 64 * L + i < K + (b.extract 0 j).size := by omega
        have c3 : 64 * L + i < K + b.size := by omega
        simp only [c1, c2, c3, if_true, if_false]
        rw [bs_extract _ _ _ _ (by omega), Nat.zero_add]
    · refine .inl (bs_ext (by rw [ByteArray.size_extract, ByteArray.size_extract]; omega) fun i hi => ?_)
      rw [ByteArray.size_extract] at hi
      rw [bs_extract _ _ _ _ (by omega), bs_extract _ _ _ _ (by omega), splB_bs (by omega) (by omega)]
      have c1 : ¬ 64 * L + i < K + (b.extract 0 j).size := by omega
      by_cases c2 : 64 * L + i < K
      · simp only [c2, if_true]
      · simp only [c1, c2, if_false]
  · subst he
    rw [splB_nil (by omega)]
    exact .inl rfl
  · subst he
    rw [splB_all h]
    exact .inr rfl
section
variable {w w' : World} {X : HtA} {A : FlA} {a : DevA} {C : CfgZ} {gd cm : Bool} {N N' lim sb : Nat} {B : ByteArray}
theorem HSp.pos (h : HSp C X A a gd cm lim sb B N w) : 0 < pgC C ∧ OkC C := by
  obtain ⟨Y, h1, h2⟩ := h.st
  exact h1.pos
/-- A line of all bytes is written. -/
theorem HSp.putT (h : HSp C X A a gd cm lim sb B N w) (hN : N < 400000000) (L : Nat) (hL : L < 8 * pgC C) (l : ByteArray) (hl : l.size = 64) :
    Calls Tryz.prog 39 #[.pointer (some ⟨X.pb, 0, none⟩), .int .i64 ((L / 8 : Nat) : Int), .int .i64 ((L % 8 : Nat) : Int), .string l] w fun e w' => ∃ x : Int, e = .returned (.int .i64 x) ∧ ((x = 0 ∧ HSp C X A a gd cm lim sb (splB B (64 * L) l) (N + 42000) w') ∨ (x = 10 ∧ gd = false ∧ HSp C X A a gd cm lim sb B (N + 42000) w') ∨ (x = 6 ∧ cm = false ∧ FLo C a gd (fun F' => ∃ Z, PgY C Z (N + 42000) F' ∧ (∀ g k m, g < pgC C → k < 8 → m < 8 → 8 * g + k ≠ L → Z g k m = wdL (lnQ B (8 * g + k)).data.toList m) ∧ ∀ g k m, g < pgC C → k < 8 → m < 8 → 8 * g + k = L → (Z g k m = wdL (lnQ B (8 * g + k)).data.toList m ∨ Z g k m = wdL l.data.toList m)) (N + 42000) w')) ∧ Gr (X.all ++ (A.all (cR C) ++ a.all)) w w' := by
  obtain ⟨Y, h1, h2⟩ := h.st
  have hw : ∀ g k m, g < pgC C → k < 8 → m < 8 → Y g k m = wdL (lnQ B (8 * g + k)).data.toList m := fun g k m hg hk hm => by
    rw [← h2 g k hg hk]
    exact ((h1.text g k hg hk).2.1 m hm).symm
  refine (h1.put hN (L / 8) (L % 8) (by omega) (by omega) l hl).mono ?_
  rintro e w2 ⟨x, rfl, hx, g2⟩
  have hd2 := h.hd.gr g2 h.na
  have hsz := h.sz
  refine ⟨x, rfl, ?_, g2⟩
  rcases hx with ⟨e, q⟩ | ⟨e, hg, q⟩ | ⟨e, hc, q⟩
  · refine .inl ⟨e, ⟨_, q, fun g k hg hk => ?_⟩, by rw [splB_size (by omega)]; exact hsz, hd2, h.na, h.pg⟩
    by_cases c : g = L / 8 ∧ k = L % 8
    · obtain ⟨rfl, rfl⟩ := c
      rw [show 8 * (L / 8) + L % 8 = L by omega]
      unfold lnQ
      rw [splB_own hl (by omega)]
      exact tY_is hl fun m hm => by unfold putN; rw [if_pos ⟨rfl, rfl⟩]
    · have e1 : putN Y (L / 8) (L % 8) l g k = Y g k := by
        funext m
        exact if_neg c
      have e2 : tY (putN Y (L / 8) (L % 8) l) g k = tY Y g k := by unfold tY; rw [e1]
      rw [e2, h2 g k hg hk]
      unfold lnQ
      rw [splB_far hl (by omega) (by omega) (by omega)]
  · exact .inr (.inl ⟨e, hg, ⟨Y, q, h2⟩, hsz, hd2, h.na, h.pg⟩)
  · refine .inr (.inr ⟨e, hc, FLo.imp q fun F3 hF3 => ?_⟩)
    obtain ⟨Z, z1, z2, z3⟩ := hF3
    refine ⟨Z, z3, fun g k m hg hk hm hne => (z1 g k m hg hk hm (by omega)).trans (hw g k m hg hk hm), fun g k m hg hk hm he => ?_⟩
    have e1 : L / 8 = g := by omega
    have e2 : L % 8 = k := by omega
    rw [e1, e2] at z2
    rcases z2 m hm with r | r
    · exact .inl (r.trans (hw g k m hg hk hm))
    · exact .inr r
set_option maxRecDepth 100000 in
set_option maxHeartbeats 16000000 in
theorem spwriteT_in (h : HSp C X A a gd cm lim sb B N w) (K : Nat) (b : ByteArray) (hb : K + b.size ≤ B.size) (hN : N + 42000 * b.size < 400000000) :
    Calls Tryz.prog 11 #[.pointer (some ⟨sb, 0, none⟩), .int .i64 (K : Int), .string b] w fun e w' => ∃ x : Int, e = .returned (.int .i64 x) ∧ ((x = 0 ∧ HSp C X A a gd cm lim sb (splB B K b) (N + 42000 * b.size) w') ∨ (x = 10 ∧ gd = false ∧ ∃ j, j ≤ b.size ∧ HSp C X A a gd cm lim sb (splB B K (b.extract 0 j)) (N + 42000 * b.size) w') ∨ (x = 6 ∧ cm = false ∧ FLo C a gd (TwoY C B (splB B K b) (N + 42000 * b.size)) (N + 42000 * b.size) w')) ∧ Gr (X.all ++ (A.all (cR C) ++ a.all)) w w' := by
  have HW := Lib.hid (within_any h (K : Int) (b.size : Int))
  have he : errW B.size (K : Int) (b.size : Int) = 0 := if_neg (by omega)
  rw [he] at HW
  have H0 := Lib.hid h
  have HNN := Lib.hid hN
  have HSZ := Lib.hid (show B.size = 512 * pgC C ∧ pgC C ≤ 2048 ∧ K + b.size ≤ B.size ∧ B.size ≤ 1048576 from ⟨h.sz, h.pg, hb, by have := h.sz; have := h.pg; omega⟩)
  obtain ⟨M, hM⟩ : ∃ M, M = b.size := ⟨_, rfl⟩
  have HM := Lib.hid hM
  rw [← hM] at HNN HSZ ⊢
  clear h he hb hN
  go_enter Tryz.func11, Tryz.ntmps11

  go_wp2_with fail
  refine HW.out.mono ?_
  rintro e w2 ⟨rfl, rfl⟩
  clear hM HW
  go_upto_region 4 with fail
  go_loopw [1, 2] (fun av bv wr => ∃ j : Nat, (j ≤ M ∧ ((K + j) % 64 = 0 ∨ j = 0 ∨ j = M)) ∧ av = .int .i64 ((K + j : Nat) : Int) ∧ bv = .string (b.extract j M) ∧ Hid (HSp C X A a gd cm lim sb (splB B K (b.extract 0 j)) (N + 42000 * j) wr ∧ Gr (X.all ++ (A.all (cR C) ++ a.all)) w2 wr)) (fun av _ _ => K + M - (intOf av).toNat)
  case atStart =>
    refine ⟨0, ⟨by omega, .inr (.inl rfl)⟩, rfl, by rw [HM.out, ext_all], Lib.hid ⟨?_, Gr.refl _ _⟩⟩
    rw [splB_nil (by have := HSZ.out; omega)]
    exact H0.out
  case round =>
    obtain ⟨j, ⟨hj, hje⟩, rfl, rfl, HH⟩ := hrel
    have HE := Lib.hid hje
    clear hje
    by_cases hjM : j < M
    · as_aux_lemma =>
        have HJ := Lib.hid hjM
        obtain ⟨p, hp⟩ : ∃ p, p = K + j := ⟨_, rfl⟩
        obtain ⟨r, hr⟩ : ∃ r, r = M - j := ⟨_, rfl⟩
        obtain ⟨bj, hbj⟩ : ∃ t, t = b.extract j M := ⟨_, rfl⟩
        obtain ⟨Bj, hBj⟩ : ∃ t, t = splB B K (b.extract 0 j) := ⟨_, rfl⟩
        rw [← hp, ← hbj]
        rw [← hBj] at HH
        have hbjs : bj.size = r := by rw [hbj, hr]; exact ext_size (by have := HM.out; omega) (by omega)
        have hBjs : Bj.size = B.size := by rw [hBj]; exact splB_size (by have := HSZ.out; have := HM.out; rw [ext_size (by omega) (by omega)]; omega)
        have hps : p < Bj.size := by rw [hBjs]; have := HSZ.out; omega
        have ir : (0 : Int) < (r : Int) := by omega
        have ir2 : 0 < r := by omega
        have HLi := Lib.hid (fun W (g : Gr [] wr W) => spline_any (HH.out.1.gr0 g) p hps)
        obtain ⟨f, hf⟩ : ∃ f, f = p % 64 := ⟨_, rfl⟩
        have y1 : (p : Int).tmod 64 = (f : Int) := by rw [hf]; exact (Int.ofNat_tmod p 64).symm
        have y2 : IntKind.i64.wrap (f : Int) = (f : Int) := IntWalk.i64_in _ (by omega)
        obtain ⟨u, hu⟩ : ∃ u, u = 64 - f := ⟨_, rfl⟩
        have y3 : IntKind.i64.wrap (64 - (f : Int)) = (u : Int) := by rw [show 64 - (f : Int) = (u : Int) by omega]; exact IntWalk.i64_in _ (by omega)
        obtain ⟨m, hm⟩ : ∃ m, m = min r u := ⟨_, rfl⟩
        have hmn := minIsS Tryz.prog r u m hm
        have HN := Lib.hid (show p = K + j ∧ r = M - j ∧ f = p % 64 ∧ f < 64 ∧ 1 ≤ m ∧ f + m ≤ 64 ∧ m ≤ r ∧ p < B.size ∧ (m = r ∨ f + m = 64) from ⟨hp, hr, hf, by omega, by omega, by omega, by omega, by rw [← hBjs]; exact hps, by omega⟩)
        obtain ⟨T, hT⟩ : ∃ T, T = lnQ Bj (p / 64) := ⟨_, rfl⟩
        rw [← hT] at HLi
        have hT64 : T.size = 64 := by rw [hT]; exact lnQ_size HH.out.1 (by have := HSZ.out; omega)
        obtain ⟨q, hq⟩ : ∃ q, q = bj.extract 0 m := ⟨_, rfl⟩
        have hqs : q.size = m := by rw [hq]; exact (ext_size (by omega) (by omega)).trans (by omega)
        have HQ := Lib.hid (show q = b.extract j (j + m) ∧ T = lnQ Bj (p / 64) ∧ Bj = splB B K (b.extract 0 j) ∧ Bj.size = B.size ∧ bj = b.extract j M from ⟨by
          rw [hq, hbj, ext_ext _ _ _ _ (by omega) (by omega) (by have := HM.out; omega), Nat.add_zero], hT, hBj, hBjs, hbj⟩)
        have lm : m ≤ r := by omega
        have lm1 : (m : Int) ≤ (r : Int) := by omega
        have lm0 : (0 : Int) ≤ (m : Int) := by omega
        have hm64 : ((m : Int) < 64) ↔ m < 64 := by omega
        clear hjM hj hp hr hps hf hm hu hT hbj hBj hBjs
        go_upto_region 7 with fail
        try rw [← hq]
        clear hq
        clear y1 y2 y3 hmn lm lm1 lm0 ir ir2
        obtain ⟨LL, hLL⟩ : ∃ t, t = midL T q f := ⟨_, rfl⟩
        have HLL := Lib.hid hLL
        have hmin : min m r = m := by have := HN.out; omega
        go_upto_if 39 with fail
        clear hmin
        go_cut [10] (fun lv wz => lv = .string LL ∧ Gr [] wr wz)
        case first =>
          by_cases c64 : m < 64
          · as_aux_lemma =>
              have il : (m : Int) < 64 := by omega
              go_upto_region 9 with fail
              clear il c64
              go_wp2_with fail
              refine (HLi.out _ (Gr.refl _ _)).mono ?_
              rintro e w5 ⟨rfl, g5⟩
              have HG := Lib.hid g5
              clear g5
              have lf : (f : Int) ≤ 64 := by have := HN.out; omega
              have lf0 : (0 : Int) ≤ (f : Int) := by omega
              have lf2 : f ≤ 64 := by have := HN.out; omega
              obtain ⟨v, hv⟩ : ∃ v, v = f + m := ⟨_, rfl⟩
              have y5 : IntKind.i64.wrap ((f : Int) + (m : Int)) = (v : Int) := by rw [show (f : Int) + (m : Int) = (v : Int) by omega]; exact IntWalk.i64_in _ (by have := HN.out; omega)
              have lv1 : (v : Int) ≤ 64 := by have := HN.out; omega
              have lv2 : v ≤ 64 := by have := HN.out; omega
              have lv0 : (0 : Int) ≤ (v : Int) := by omega
              go_upto_region 12 with fail
              have hne := kp_ne w5
              refine wp_region_kp (by kernel_rfl) (by kernel_rfl) ?_
              repeat (go_big_quiet_step (fail))
              with_reducible refine wpQuiet_nil ?_
              rintro _ ⟨y, rfl⟩
              have HG2 := Lib.hid (HG.out.trans (Gr.ofBelow (cs := []) y.h))
              clear hne
              generalize y.w = w6 at *
              go_wp2_with fail
              go_meet
              refine ⟨?_, HG2.out⟩
              rw [HLL.out]
              unfold midL
              rw [hqs]
          · as_aux_lemma =>
              have il : ¬ (m : Int) < 64 := by omega
              have e64 : m = 64 := by have := HN.out; omega
              have f0 : f = 0 := by have := HN.out; omega
              have HLq := Lib.hid (show LL = q from by rw [HLL.out, f0]; exact midL_all hT64 (by omega))
              clear e64 f0
              go_wp2_with fail
              go_meet
              exact ⟨by rw [HLq.out], Gr.refl _ _⟩
        case rest =>
          obtain ⟨rfl, gc⟩ := hcut
          have HC := Lib.hid (show HSp C X A a gd cm lim sb Bj (N + 42000 * j) wc ∧ Gr (X.all ++ (A.all (cR C) ++ a.all)) w2 wc from ⟨HH.out.1.gr0 gc, HH.out.2.next0 gc⟩)
          have hls : LL.size = 64 := by rw [hLL]; exact midL_size hT64 (by rw [hqs]; have := HN.out; omega)
          clear gc HH HLi
          have HSt := Lib.hid (fun W => spot_any p (by have := HN.out; have := HSZ.out; omega) W)
          have HPt := Lib.hid (HC.out.1.putT (by have := HNN.out; have := HJ.out; omega) (p / 64) (by have := HN.out; have := HSZ.out; omega) LL hls)
          rw [show p / 64 / 8 = p / 512 by omega, show p / 64 % 8 = p % 512 / 64 by omega] at HPt
          obtain ⟨g1, hg1⟩ : ∃ x, x = p / 512 := ⟨_, rfl⟩
          obtain ⟨k1, hk1⟩ : ∃ x, x = p % 512 / 64 := ⟨_, rfl⟩
          rw [← hg1, ← hk1] at HSt HPt
          clear hg1 hk1
          have hls2 := hls
          clear hls
          have HRes := Lib.hid (show splB Bj (64 * (p / 64)) LL = splB B K (b.extract 0 (j + m)) from by
            have n0 := HN.out
            have z0 := HSZ.out
            have hM := HM.out
            rw [hLL]
            unfold midL
            rw [HQ.out.2.1]
            unfold lnQ
            rw [n0.2.2.1]
            rw [splB_line (L := p / 64) (k := p) (p := q) (by rw [HQ.out.2.2.2.1]; omega) rfl (by rw [hqs]; omega), HQ.out.1, HQ.out.2.2.1, n0.1]
            exact splB_step (by omega) (by omega) (by omega))
          clear hLL hT64
          have c0 := HC.out.1.hd.cell 0
          go_wp2_with fail
          refine (HSt.out _).mono ?_
          rintro e w7 ⟨rfl, rfl⟩
          go_wp2_with fail
          refine HPt.out.mono ?_
          rintro e w8 ⟨x, rfl, hx, g8⟩
          have HG8 := Lib.hid (HC.out.2.trans g8)
          clear g8 HPt HSt c0
          rcases hx with ⟨rfl, h8⟩ | ⟨rfl, hgd, h8⟩ | ⟨rfl, hc, h8⟩
          · rw [HRes.out] at h8
            have H8 := Lib.hid h8
            clear h8
            have u1 : IntKind.i64.wrap ((p : Int) + (m : Int)) = ((K + (j + m) : Nat) : Int) := by
              have n0 := HN.out
              have z0 := HSZ.out
              rw [show (p : Int) + (m : Int) = ((K + (j + m) : Nat) : Int) by omega]
              exact IntWalk.i64_in _ (by omega)
            have lm : m ≤ r := HN.out.2.2.2.2.2.2.1
            have lm1 : (m : Int) ≤ (r : Int) := by omega
            have lm0 : (0 : Int) ≤ (m : Int) := by omega
            go_wp2_with fail
            go_roundw
            case rel =>
              refine ⟨j + m, ⟨by have := HN.out; omega, by have := HN.out; omega⟩, rfl, ?_, Lib.hid ⟨H8.out.more (by have := HN.out; omega), HG8.out⟩⟩
              have n0 := HN.out
              have hM := HM.out
              congr 1
              rw [HQ.out.2.2.2.2] at hbjs ⊢
              first
                | (rw [ext_ext _ _ _ _ (by omega) (by omega) (by omega)]; congr 1; omega)
                | (rw [hbjs, ext_ext _ _ _ _ (by omega) (by omega) (by omega)]; congr 1; omega)
            case measure => have := HN.out; simp [intOf]; omega
          · have H8 := Lib.hid (And.intro hgd h8)
            clear h8 hgd
            go_wp2_with fail
            go_ret
            refine ⟨10, rfl, .inr (.inl ⟨rfl, H8.out.1, j, by have := HJ.out; omega, ?_⟩), HG8.out⟩
            rw [← HQ.out.2.2.1]
            exact H8.out.2.more (by have := HJ.out; omega)
          · have H8 := Lib.hid (And.intro hc h8)
            clear hc h8
            go_wp2_with fail
            go_ret
            refine ⟨6, rfl, .inr (.inr ⟨rfl, H8.out.1, (H8.out.2.imp fun F3 hF3 => ?_).more (by have := HJ.out; omega)⟩), HG8.out⟩
            have n0 := HN.out
            have z0 := HSZ.out
            have hM := HM.out
            have hJ := HJ.out
            obtain ⟨Z, y1, y2, y3⟩ := hF3
            refine ⟨Z, y1.congr HC.out.1.pos.2 HC.out.1.pos.1 (fun _ _ _ _ => rfl) (by omega) (fun _ _ _ _ _ _ => rfl), fun g k m2 hg hk hm2 => ?_⟩
            have he1 := splB_edge (B := B) (b := b) (K := K) (j := j) (L := 8 * g + k) (by omega) (by omega) (by have := HE.out; omega) (by omega)
            have he2 := splB_edge (B := B) (b := b) (K := K) (j := j + m) (L := p / 64) (by omega) (by omega) (by omega) (by omega)
            by_cases c : 8 * g + k = p / 64
            · rcases y3 g k m2 hg hk hm2 c with q | q
              · rw [q, HQ.out.2.2.1]
                rcases he1 with e | e
                · rw [e]; exact .inl rfl
                · rw [e]; exact .inr rfl
              · have e3 : lnQ (splB Bj (64 * (p / 64)) LL) (p / 64) = LL := by
                  unfold lnQ
                  exact splB_own hls2 (by rw [HQ.out.2.2.2.1]; omega)
                rw [HRes.out] at e3
                rw [q, ← e3, c]
                rcases he2 with e | e
                · rw [e]; exact .inl rfl
                · rw [e]; exact .inr rfl
            · rw [y2 g k m2 hg hk hm2 c, HQ.out.2.2.1]
              rcases he1 with e | e
              · rw [e]; exact .inl rfl
              · rw [e]; exact .inr rfl
    · obtain rfl : j = M := by omega
      have hz : (b.extract j j).size = 0 := by rw [ByteArray.size_extract]; omega
      clear hjM hj
      go_wp2_with fail
      go_ret
      refine ⟨0, rfl, .inl ⟨rfl, ?_⟩, HH.out.2⟩
      have := HH.out.1
      rw [HM.out, splB_all (by have := HSZ.out; have := HM.out; omega)] at this
      rw [HM.out]
      exact this
end
end Go.Proofs.YtifekejcbhllpaaGreat
