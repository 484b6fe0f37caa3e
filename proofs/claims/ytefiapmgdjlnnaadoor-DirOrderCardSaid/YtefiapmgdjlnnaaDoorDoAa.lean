/-
  DoAa: Base, Gr, DiP, DiJ, DiK, FrameS, DiL.
-/
import Derived.Test.YtefiapmgdjlnnaaDoorDnAa
import Derived.Test.YtefiapmgdjlnnaaDoorDnAb
import Derived.Test.YtefiapmgdjlnnaaDoorDnAc
import Derived.Test.YtefiapmgdjlnnaaDoorDnAd
import Derived.Test.YtefiapmgdjlnnaaDoorDnAe
import Derived.Test.YtefiapmgdjlnnaaDoorDnAf
import Derived.Test.YtefiapmgdjlnnaaDoorDnAg
import Derived.Test.YtefiapmgdjlnnaaDoorDnAh
import Derived.Test.YtefiapmgdjlnnaaDoorDnAi
import Derived.Test.YtefiapmgdjlnnaaDoorRows
import Derived.WalkKit
import Derived.Handy
import Derived.Lib.Hide
import Derived.Deep.QuietTactic
import Derived.BigQuiet
import Derived.KernelRfl
import Derived.Maps.RangeWalk
import Derived.Maps.OwnSet
import Derived.StringKeys
import Derived.StillTailTactics
import Derived.Lib.Join
import Derived.Lib.Strings
import Derived.Lib.Bytealg
import Derived.Shelf.Strings.Prefix
import Derived.Shelf.Strings.IndexAnyAll
import Derived.Shelf.Strings.Search2
import Derived.Shelf.Strings.OnBuilder
import Derived.Ground.NamesProg
import Derived.Laws.RangeAny
import Derived.Laws.Runes
import Derived.Laws.RangeString
import Derived.Laws.Strings3
import Derived.Deep.LoopGhost
import Derived.WalkMore
import Derived.Lib.AppendStr
import Derived.Deep.RegionHeld3
import Derived.Deep.CutBlock
import Derived.Shelf.Strconv.Itoa3
import Derived.ProofKit
import Derived.OpenShut
import Derived.SizedLaws
import Derived.Shelf.SlSortCmp.WholeK
import Derived.Ground.SlsfProg
import Derived.Laws.Cover1
import Derived.ChangeSlices
import Derived.Deep.Slices
import Derived.Deep.Grids
import Derived.Lib.AppendIntMem
import Derived.Deep.DeepCutAuto

set_option linter.unusedVariables false

/-
  What many texts share: worlds below a bound; max with 0; small arithmetic.
-/
namespace Go.Proofs.YtefiapmgdjlnnaaDoor
open Go.RowKit

theorem natU8 {a : Int} (h : (Lit.int .u8 a).wf = true) : ∃ n : Nat, a = n ∧ n < 256 := by
  have := bounds_u8 h
  exact ⟨a.toNat, by omega, by omega⟩
theorem natU16 {a : Int} (h : (Lit.int .u16 a).wf = true) : ∃ n : Nat, a = n ∧ n < 65536 := by
  have := bounds_u16 h
  exact ⟨a.toNat, by omega, by omega⟩
end Go.Proofs.YtefiapmgdjlnnaaDoor

/-
  What a step leaves as it was: all but the blocks of a list.
-/
namespace Go.Proofs.YtefiapmgdjlnnaaDoor
open Go.RowKit

theorem Gr.drew {bs : List Nat} {a w : World} (h : Gr bs a w) : Gr bs a w.drew := ⟨h.os, h.tape, h.output, h.size, h.block⟩
theorem own_gr {w w' : World} {base : Nat} {e : TypeId} {size n : Nat} {v : Value} {xs : List Value} {bs : List Nat} (h : w.ownsRow base e size v n xs) (k : Gr bs w w') (hn : ∀ b, v.ownBlock = some b → b ∉ bs) : w'.ownsRow base e size v n xs := by
  refine ⟨h.1, ?_⟩
  rcases h.2 with hz | ⟨g, cap, cur, rfl, hg, hh, rest⟩
  · exact .inl hz
  · exact .inr ⟨g, cap, cur, rfl, hg, (k.block g (Array.getElem?_eq_some_iff.1 hh).1 (hn g rfl)).trans hh, rest⟩
theorem own_gr0 {w w' : World} {base : Nat} {e : TypeId} {size n : Nat} {v : Value} {xs : List Value} (h : w.ownsRow base e size v n xs) (k : Gr [] w w') : w'.ownsRow base e size v n xs := own_gr h k fun _ _ => by simp

theorem Gr.cell0 {w w' : World} {b o : Nat} (h : Gr [] w w') (hb : b < w.heap.size) : w'.cell? ⟨b, o, none⟩ = w.cell? ⟨b, o, none⟩ := World.cell?_of_block (w := w) (h.block b hb (by simp))
end Go.Proofs.YtefiapmgdjlnnaaDoor

/-
  Layer 17 (dir), pure: names, the buckets they fall into, how many fall into each.
-/
namespace Go.Proofs.YtefiapmgdjlnnaaDoor
open Go.RowKit

/-! ### Rows as functions -/
/-! ### Buckets -/
section
variable {F : ByteArray → Option Nat} {N M : List ByteArray}
theorem NmOk.perm (h : NmOk F N) (k : NmOk F M) : N.Perm M := (List.perm_ext_iff_of_nodup h.nd k.nd).2 fun s => (h.mem s).trans (k.mem s).symm
end
end Go.Proofs.YtefiapmgdjlnnaaDoor

/-
  Layer 17 (dir): entries are sorted by their names.
-/
namespace Go.Proofs.YtefiapmgdjlnnaaDoor
open Go.RowKit Go.Shelf
set_option linter.unusedVariables false

def DiJ.srt_ren : Go.Shelf.Ren := ⟨fun | 6 => 34 | 15 => 44 | 14 => 43 | 28 => 62 | 29 => 63 | 20 => 54 | 21 => 55 | 22 => 56 | 23 => 57 | 24 => 58 | 25 => 59 | 26 => 60 | 27 => 61 | 46 => 73 | 47 => 74 | 48 => 75 | 49 => 76 | 50 => 77 | 57 => 85 | n => n, fun | 22 => 49 | 24 => 44 | 25 => 76 | 3 => 3 | 39 => 84 | 0 => 0 | 53 => 104 | 55 => 73 | 4 => 4 | 46 => 98 | 45 => 97 | 50 => 37 | 5 => 5 | 9 => 9 | 66 => 115 | 70 => 119 | 76 => 126 | 77 => 127 | n => n, fun | n => n⟩
theorem DiJ.srt : Go.Proofs.SlLaysF0.n6 Tryd.prog DiJ.srt_ren where
  mixed := by kernel_rfl
  f6 := ⟨ "slices.SortFunc[[]gabion/dir.Entry,gabion/dir.Entry]", by decide, Tryd.func34.trans (congrArg some (by kernel_rfl))⟩
  f14 := ⟨ "slices.pdqsortCmpFunc[gabion/dir.Entry]", by decide, Tryd.func43.trans (congrArg some (by kernel_rfl))⟩
  f15 := Tryd.func44.trans (congrArg some (by kernel_rfl))
  f20 := ⟨ "slices.insertionSortCmpFunc[gabion/dir.Entry]", by decide, Tryd.func54.trans (congrArg some (by kernel_rfl))⟩
  f21 := ⟨ "slices.heapSortCmpFunc[gabion/dir.Entry]", by decide, Tryd.func55.trans (congrArg some (by kernel_rfl))⟩
  f22 := ⟨ "slices.breakPatternsCmpFunc[gabion/dir.Entry]", by decide, Tryd.func56.trans (congrArg some (by kernel_rfl))⟩
  f23 := ⟨ "slices.choosePivotCmpFunc[gabion/dir.Entry]", by decide, Tryd.func57.trans (congrArg some (by kernel_rfl))⟩
  f24 := ⟨ "slices.reverseRangeCmpFunc[gabion/dir.Entry]", by decide, Tryd.func58.trans (congrArg some (by kernel_rfl))⟩
  f25 := ⟨ "slices.partialInsertionSortCmpFunc[gabion/dir.Entry]", by decide, Tryd.func59.trans (congrArg some (by kernel_rfl))⟩
  f26 := ⟨ "slices.partitionEqualCmpFunc[gabion/dir.Entry]", by decide, Tryd.func60.trans (congrArg some (by kernel_rfl))⟩
  f27 := ⟨ "slices.partitionCmpFunc[gabion/dir.Entry]", by decide, Tryd.func61.trans (congrArg some (by kernel_rfl))⟩
  f28 := Tryd.func62.trans (congrArg some (by kernel_rfl))
  f29 := Tryd.func63.trans (congrArg some (by kernel_rfl))
  f46 := ⟨ "slices.siftDownCmpFunc[gabion/dir.Entry]", by decide, Tryd.func73.trans (congrArg some (by kernel_rfl))⟩
  f47 := Tryd.func74.trans (congrArg some (by kernel_rfl))
  f48 := Tryd.func75.trans (congrArg some (by kernel_rfl))
  f49 := ⟨ "slices.medianAdjacentCmpFunc[gabion/dir.Entry]", by decide, Tryd.func76.trans (congrArg some (by kernel_rfl))⟩
  f50 := ⟨ "slices.medianCmpFunc[gabion/dir.Entry]", by decide, Tryd.func77.trans (congrArg some (by kernel_rfl))⟩
  f57 := ⟨ "slices.order2CmpFunc[gabion/dir.Entry]", by decide, Tryd.func85.trans (congrArg some (by kernel_rfl))⟩
  t0 := Tryd.underlying0
  a0 := Tryd.isAgg0
  z0 := Tryd.sizeOf0
  v0 := Tryd.zeroValue0
  t3 := Tryd.underlying3
  a3 := Tryd.isAgg3
  z3 := Tryd.sizeOf3
  v3 := Tryd.zeroValue3
  t4 := Tryd.underlying4
  a4 := Tryd.isAgg4
  z4 := Tryd.sizeOf4
  v4 := Tryd.zeroValue4
  t5 := Tryd.underlying5
  a5 := Tryd.isAgg5
  z5 := Tryd.sizeOf5
  v5 := Tryd.zeroValue5
  t9 := Tryd.underlying9
  a9 := Tryd.isAgg9
  z9 := Tryd.sizeOf9
  v9 := Tryd.zeroValue9
  t22 := Tryd.underlying49
  a22 := Tryd.isAgg49
  z22 := Tryd.sizeOf49
  v22 := Tryd.zeroValue49
  t25 := Tryd.underlying76
  a25 := Tryd.isAgg76
  z25 := Tryd.sizeOf76
  v25 := Tryd.zeroValue76
  t39 := Tryd.underlying84
  a39 := Tryd.isAgg84
  z39 := Tryd.sizeOf84
  v39 := Tryd.zeroValue84
  t45 := Tryd.underlying97
  a45 := Tryd.isAgg97
  z45 := Tryd.sizeOf97
  v45 := Tryd.zeroValue97
  t46 := Tryd.underlying98
  a46 := Tryd.isAgg98
  z46 := Tryd.sizeOf98
  v46 := Tryd.zeroValue98
  t50 := Tryd.underlying37
  a50 := Tryd.isAgg37
  z50 := Tryd.sizeOf37
  v50 := Tryd.zeroValue37
  t53 := Tryd.underlying104
  a53 := Tryd.isAgg104
  z53 := Tryd.sizeOf104
  v53 := Tryd.zeroValue104
  t55 := Tryd.underlying73
  a55 := Tryd.isAgg73
  z55 := Tryd.sizeOf73
  v55 := Tryd.zeroValue73
  t66 := Tryd.underlying115
  a66 := Tryd.isAgg115
  z66 := Tryd.sizeOf115
  v66 := Tryd.zeroValue115
  t70 := Tryd.underlying119
  a70 := Tryd.isAgg119
  z70 := Tryd.sizeOf119
  v70 := Tryd.zeroValue119
  t76 := Tryd.underlying126
  a76 := Tryd.isAgg126
  z76 := Tryd.sizeOf126
  v76 := Tryd.zeroValue126
  t77 := Tryd.underlying127
  a77 := Tryd.isAgg127
  z77 := Tryd.sizeOf127
  v77 := Tryd.zeroValue127
theorem DiJ.fSrt : DiJ.srt_ren.f 6 = 34 := rfl
/-- How two texts compare. -/
def cmpT (x y : ByteArray) : Int := if x.data.toList < y.data.toList then -1 else if x = y then 0 else 1
theorem cmpT_neg (x y : ByteArray) : decide (cmpT x y < 0) = Go.Sort.ltStr x.data.toList y.data.toList := by
  unfold cmpT Go.Sort.ltStr
  by_cases h : x.data.toList < y.data.toList
  · simp [h]
  · by_cases e : x = y
    · subst e; simp [h]
    · simp [h, e]
set_option maxRecDepth 100000 in
theorem isnan_any (x : ByteArray) (W : World) : Calls Tryd.prog 45 #[.string x] W fun e w' => e = .returned (.bool false) ∧ w' = W := by
  go_enter Tryd.func45, Tryd.ntmps45
  go_wp2_with fail
  go_ret
  exact ⟨rfl, rfl⟩
set_option maxRecDepth 100000 in
theorem cmps_any (x y : ByteArray) (W : World) : Calls Tryd.prog 36 #[.string x, .string y] W fun e w' => e = .returned (.int .i64 (cmpT x y)) ∧ w' = W := by
  have HX := Lib.hid (isnan_any x W)
  have HY := Lib.hid (isnan_any y W)
  have hb : Op.bytesLess x.toList y.toList = decide (x.data.toList < y.data.toList) := by rw [bytesLess_eq, Lib.toList_data, Lib.toList_data]
  by_cases h : x.data.toList < y.data.toList
  · have hc : cmpT x y = -1 := if_pos h
    rw [decide_eq_true h] at hb
    rw [hc]
    clear h hc
    go_enter Tryd.func36, Tryd.ntmps36
    go_wp2_with fail
    refine HX.out.mono ?_
    rintro e w2 ⟨rfl, rfl⟩
    go_wp2_with fail
    refine HY.out.mono ?_
    rintro e w3 ⟨rfl, rfl⟩
    go_wp2_with fail
    go_ret
    exact ⟨rfl, rfl⟩
  · rw [decide_eq_false h] at hb
    by_cases e : x = y
    · subst e
      have hc : cmpT x x = 0 := by unfold cmpT; rw [if_neg h, if_pos rfl]
      rw [hc]
      clear h hc
      go_enter Tryd.func36, Tryd.ntmps36
      go_wp2_with fail
      refine HX.out.mono ?_
      rintro e w2 ⟨rfl, rfl⟩
      go_wp2_with fail
      refine HY.out.mono ?_
      rintro e w3 ⟨rfl, rfl⟩
      go_wp2_with fail
      go_ret
      exact ⟨rfl, rfl⟩
    · have he : (x.toList == y.toList) = false := by
        rw [Lib.toList_data, Lib.toList_data, beq_eq_false_iff_ne]
        exact fun q => e (seq17 q)
      have hc : cmpT x y = 1 := by unfold cmpT; rw [if_neg h, if_neg e]
      rw [hc]
      clear h hc e
      go_enter Tryd.func36, Tryd.ntmps36
      go_wp2_with fail
      refine HX.out.mono ?_
      rintro e w2 ⟨rfl, rfl⟩
      go_wp2_with fail
      refine HY.out.mono ?_
      rintro e w3 ⟨rfl, rfl⟩
      go_wp2_with fail
      go_ret
      exact ⟨rfl, rfl⟩
/-- An entry's two cells. -/
def encE (x : ByteArray × Nat) : List Value := [.string x.1, .int .i64 (x.2 : Int)]
def cmpE (x y : ByteArray × Nat) : Int := cmpT x.1 y.1
theorem ltOf_cmpE (x y : ByteArray × Nat) : ltOf cmpE x y = Go.Sort.ltStr x.1.data.toList y.1.data.toList := cmpT_neg _ _
theorem swoE : Go.Sort.SWO (ltOf cmpE) where
  irrefl x := by rw [ltOf_cmpE]; exact Go.Sort.swo_ltStr.irrefl _
  trans x y z h1 h2 := by rw [ltOf_cmpE] at *; exact Go.Sort.swo_ltStr.trans _ _ _ h1 h2
  ntrans x y z h1 h2 := by rw [ltOf_cmpE] at *; exact Go.Sort.swo_ltStr.ntrans _ _ _ h1 h2
set_option maxRecDepth 100000 in
theorem closE (x y : ByteArray × Nat) (W : World) : Calls Tryd.prog 35 #[.agg #[.string x.1, .int .i64 (x.2 : Int)], .agg #[.string y.1, .int .i64 (y.2 : Int)]] W fun e w' => e = .returned (.int .i64 (cmpE x y)) ∧ ∃ q os', w' = Go.Sort.grow (W.drewN q) os' := by
  have hcon := fun W' => cmps_any x.1 y.1 W'
  unfold cmpE
  generalize cmpT x.1 y.1 = r at hcon ⊢
  go_enter Tryd.func35, Tryd.ntmps35
  go_wp2_with (go_at_call 36; refine (hcon _).mono ?_; rintro e w' ⟨rfl, rfl⟩)
  go_ret
  exact ⟨rfl, 0, _, by rw [Go.Sort.alloc_eq_grow, Go.Sort.alloc_eq_grow, Go.Sort.grow_grow]; rfl⟩
theorem gr_sorted (w : World) (g n : Nat) (d : Array (ByteArray × Nat)) (os : Array Obj) : Gr [g] w (sortWorldK encE 2 w g 0 n d os) := by
  refine ⟨rfl, rfl, rfl, ?_, fun k hk hn => ?_⟩
  · show w.heap.size ≤ ((Go.Sort.putRowK encE 2 (Go.Sort.ahead w n) g 0 d).heap ++ os).size
    rw [Array.size_append, Go.Sort.size_putRowK]
    exact Nat.le_add_right _ _
  · have hs : k < (Go.Sort.putRowK encE 2 (Go.Sort.ahead w n) g 0 d).heap.size := by rw [Go.Sort.size_putRowK]; exact hk
    show ((Go.Sort.putRowK encE 2 (Go.Sort.ahead w n) g 0 d).heap ++ os)[k]? = w.heap[k]?
    rw [Array.getElem?_append_left hs]
    show (w.heap.modify g _)[k]? = w.heap[k]?
    rw [Array.getElem?_modify, if_neg fun e => hn (by rw [e]; simp)]
theorem sortE (g cap : Nat) (d : Array (ByteArray × Nat)) (w : World) (hH : Go.Sort.HoldsK encE 2 w g 0 d) (hg : g < w.heap.size) (hsz : d.size < 4611686018427387904) :
    Calls Tryd.prog 34 #[.slice (some ⟨g, 0, none⟩) d.size cap, .func (.func 35) #[] #[]] w fun e w' => e = .returned (.tuple #[]) ∧ ∃ d' : Array (ByteArray × Nat), d'.size = d.size ∧ d'.toList.Perm d.toList ∧ d'.toList.Pairwise (fun x y => ¬ y.1.data.toList < x.1.data.toList) ∧ Go.Sort.HoldsK encE 2 w' g 0 d' ∧ Gr [g] w w' := by
  have eg : ∀ args w, (callFunc 35 args).run Tryd.prog w = .ok (.enter 35 args) w := enters_of Tryd.func35 (by kernel_rfl) rfl
  have h := AnyQ.slices_SortFunc DiJ.srt 2 Tryd.isAgg44 Tryd.sizeOf44 encE (fun _ => rfl) (fun x v hv => by simp [encE] at hv; rcases hv with rfl | rfl <;> rfl) cmpE swoE 35 #[] g 0 cap d w eg (fun _ _ _ _ x y => closE x y _) hH hg hsz
  rw [DiJ.fSrt] at h
  refine h.mono ?_
  rintro e w' ⟨rfl, d', n, os, hp, hs, rfl⟩
  obtain ⟨h1, h2, h3⟩ := hp
  refine ⟨rfl, d', h1, ?_, ?_, ?_, gr_sorted _ _ _ _ _⟩
  · have e1 : d'.extract 0 d.size = d' := by rw [← h1]; simp
    have e2 : d.extract 0 d.size = d := by simp
    rw [e1, e2] at h3
    exact h3
  · rw [List.pairwise_iff_getElem]
    intro i j hi hj hij
    have hi' : i < d'.size := by simpa using hi
    have hj' : j < d'.size := by simpa using hj
    have := hs i j (Nat.zero_le _) hij (by rw [← h1]; exact hj')
    rw [ltOf_cmpE] at this
    rw [getElem!_pos d' i hi', getElem!_pos d' j hj'] at this
    simpa [Go.Sort.ltStr] using this
  · exact Go.Sort.holdsK_grow encE 2 (Go.Sort.putRowK encE 2 (Go.Sort.ahead w n) g 0 d') os g 0 d' (by rw [Go.Sort.size_putRowK]; exact hg) (Go.Sort.holdsK_putRowK encE 2 (Go.Sort.ahead w n) g 0 d d' hH h1)
end Go.Proofs.YtefiapmgdjlnnaaDoor

/-
  Layer 17 (dir): List.
-/
namespace Go.Proofs.YtefiapmgdjlnnaaDoor
open Go.RowKit Go.Shelf
set_option linter.unusedVariables false

/-- The cells of entries. -/
def flatE : List (ByteArray × Nat) → List Value
  | [] => []
  | x :: L => .string x.1 :: .int .i64 (x.2 : Int) :: flatE L
theorem flatE_app : ∀ (L M : List (ByteArray × Nat)), flatE (L ++ M) = flatE L ++ flatE M
  | [], M => rfl
  | x :: L, M => by simp only [flatE, List.cons_append, flatE_app L M]
theorem flatE_get : ∀ (L : List (ByteArray × Nat)) (t : Nat), t < L.length * 2 → (flatE L)[t]? = some ((encE (L[t / 2]!))[t % 2]!)
  | [], t, h => by simp at h
  | x :: L, 0, h => rfl
  | x :: L, 1, h => rfl
  | x :: L, t + 2, h => by
    have ih := flatE_get L t (by simp only [List.length_cons] at h; omega)
    rw [show (t + 2) / 2 = t / 2 + 1 by omega, show (t + 2) % 2 = t % 2 by omega]
    simp only [flatE, List.getElem?_cons_succ]
    rw [ih]
    rfl
theorem holdsE {w : World} {base g n cap : Nat} {L : List (ByteArray × Nat)} (h : w.ownsRow base 44 2 (.slice (some ⟨g, 0, none⟩) n cap) n (flatE L)) (hn : n = L.length) : Go.Sort.HoldsK encE 2 w g 0 L.toArray := by
  intro j hj
  rw [Go.Sort.size_flatK] at hj
  have hj' : j < L.length * 2 := by simpa using hj
  refine ⟨?_, World.ownsRow.frozenAt h _⟩
  rw [Nat.zero_add, World.ownsRow.cellAt h j (by omega), flatE_get L j hj', Go.Sort.get_flatK _ _ _ _ hj]
  simp
/-- Entries in memory. -/
def EntAt (w : World) (g : Nat) (L : List (ByteArray × Nat)) : Prop := ∀ i (h : i < L.length), w.cell? ⟨g, i * 2, none⟩ = some (.string L[i].1) ∧ w.cell? ⟨g, i * 2 + 1, none⟩ = some (.int .i64 (L[i].2 : Int))
theorem entAt_of {w : World} {g : Nat} {d : Array (ByteArray × Nat)} (h : Go.Sort.HoldsK encE 2 w g 0 d) : EntAt w g d.toList := fun i hi => by
  have hi' : i < d.size := by simpa using hi
  have h0 := (Go.Sort.HoldsK.cell h (c := 0) hi' (by omega)).1
  have h1 := (Go.Sort.HoldsK.cell h (c := 1) hi' (by omega)).1
  rw [getElem!_pos d i hi', show 0 + i * 2 + 0 = i * 2 by omega] at h0
  rw [getElem!_pos d i hi', show 0 + i * 2 + 1 = i * 2 + 1 by omega] at h1
  exact ⟨by simpa [encE] using h0, by simpa [encE] using h1⟩
/-- The names and numbers, by rising names. -/
structure SrtF (F : ByteArray → Option Nat) (L : List (ByteArray × Nat)) : Prop where
  up : L.Pairwise fun x y => x.1.data.toList < y.1.data.toList
  mem : ∀ s v, (s, v) ∈ L ↔ F s = some v
def entN (F : ByteArray → Option Nat) (V : List ByteArray) : List (ByteArray × Nat) := V.map fun s => (s, (F s).getD 0)
theorem srt_of {F : ByteArray → Option Nat} {N V : List ByteArray} {L : List (ByteArray × Nat)} (ok : NmOk F N) (hV : V.Perm N) (hp : L.Perm (entN F V)) (hs : L.Pairwise fun x y => ¬ y.1.data.toList < x.1.data.toList) : SrtF F L := by
  have hnd : (L.map Prod.fst).Nodup := by
    have e : (entN F V).map Prod.fst = V := by unfold entN; rw [List.map_map]; simp [Function.comp_def]
    have := hp.map Prod.fst
    rw [e] at this
    exact (this.trans hV).nodup_iff.2 ok.nd
  have hne : L.Pairwise fun x y => x.1 ≠ y.1 := List.pairwise_map.1 hnd
  refine ⟨(hs.and hne).imp fun {x y} h => ?_, fun s v => ?_⟩
  · rcases Classical.em (x.1.data.toList < y.1.data.toList) with q | q
    · exact q
    · exact absurd (seq17 (List.le_antisymm (List.not_lt.1 h.1) (List.not_lt.1 q))) h.2
  · rw [hp.mem_iff]
    unfold entN
    rw [List.mem_map]
    constructor
    · rintro ⟨y, hy, e⟩
      injection e with e1 e2
      subst e1
      have := (ok.mem y).1 (hV.mem_iff.1 hy)
      cases c : F y with
      | none => rw [c] at this; cases this
      | some u => rw [c] at e2; rw [← e2]; rfl
    · intro h
      exact ⟨s, hV.mem_iff.2 ((ok.mem s).2 (by rw [h]; rfl)), by rw [h]; rfl⟩
theorem SrtF.nodup {F : ByteArray → Option Nat} {L : List (ByteArray × Nat)} (h : SrtF F L) : L.Nodup := h.up.imp fun {x y} h e => by subst e; exact List.lt_irrefl _ h
theorem SrtF.uniq {F : ByteArray → Option Nat} {L M : List (ByteArray × Nat)} (h : SrtF F L) (k : SrtF F M) : L = M := by
  have hp : L.Perm M := (List.perm_ext_iff_of_nodup h.nodup k.nodup).2 fun x => (h.mem x.1 x.2).trans (k.mem x.1 x.2).symm
  exact hp.eq_of_pairwise (le := fun x y => x.1.data.toList < y.1.data.toList) (fun a b _ _ h1 h2 => absurd (List.lt_trans h1 h2) (List.lt_irrefl _)) h.up k.up
/-- A slice of cells is no iterator, and no map. -/
theorem own_ran {P : Program} {k e et : TypeId} {α : Type} {E : EltLaw P e α} {w : World} {b r n m size base cnt : Nat} {v : Value} {xs : List Value} {f : ByteArray → Option α} {left : ByteArray → Bool} (h : w.ownsRow base et size v m xs) (hr : RanT E k w b r n f left cnt) : ∀ x, v.ownBlock = some x → x ≠ r := by
  intro x hx e
  subst e
  obtain ⟨D, L, ⟨es, clock, since, seen, c0, q1, q2, q3, q4, q5, q6⟩, _⟩ := hr
  rcases h.2 with ⟨rfl, _⟩ | ⟨g, cap, cur, rfl, _, hh, _⟩
  · cases hx
  · obtain rfl : g = x := by simpa [Value.ownBlock] using hx
    rw [q5] at hh
    injection hh with hh
    cases hh
theorem infoE17 : (Tryd.prog.info? 44).map (fun i => (i.zero, i.size, i.bytes)) = some (some (.agg #[.string ⟨#[]⟩, .int .i64 0]), 2, 24) := by kernel_rfl
theorem makeE_run (c : Nat) (hc : c ≤ 1000000) : ∃ cur : Array Value, cur.size = c * 2 ∧ ∀ W : World, (Instr.makeSlice 49 (.int .i64 0) (.int .i64 (c : Int))).run Tryd.prog W = .ok (.slice (some ⟨W.heap.size, 0, none⟩) 0 c) (W.alloc (.cells cur 44)) := by
  obtain ⟨i0, h0, hz0, hz1, hz2⟩ := info_parts infoE17
  refine ⟨madeCells (Value.cells (.agg #[.string ⟨#[]⟩, .int .i64 0])) (c * 2), ?_, fun W => ?_⟩
  · simp [madeCells, Value.cells]
  · have hbm2 : (i0.bytes : Int) * ((c : Nat) : Int) ≤ 281474976710656 := by rw [hz2]; omega
    have r := run_make (P := Tryd.prog) W 49 44 i0 _ Tryd.underlying49 h0 hz0 .i64 .i64 0 (c : Int) (by omega) (by omega) hbm2 (by omega)
    simp only [Int.toNat_natCast, hz1, Int.toNat_zero] at r
    exact r
/-- List at work. -/
structure LsR (w wr : World) (v : Value) (F : ByteArray → Option Nat) (V : List ByteArray) : Prop where
  own : wr.ownsRow w.heap.size 44 2 v V.length (flatE (entN F V.reverse))
  gr : Gr [] w wr
  nn : v ≠ .slice none 0 0
structure LsI (w wr : World) (A : DiA) (v : Value) (F : ByteArray → Option Nat) (N V : List ByteArray) (k r : Nat) (left : ByteArray → Bool) (g : Nat) : Prop where
  ls : LsR w wr v F V
  mv : MvD N V A.nb k left
  ran : RanT niE 9 wr (A.mb k) r (cntB A.nb k N) (atB A.nb k F) left g
  lr : w.heap.size ≤ r
theorem LsR.take {w wr w2 w3 : World} {v v' : Value} {F : ByteArray → Option Nat} {V : List ByteArray} {z : ByteArray} {c : Nat} (h : LsR w wr v F V) (hz : F z = some c) (g2 : Gr [] w w2) (hl : ∀ x, v.ownBlock = some x → w.heap.size ≤ x) (hgrow : w2.grownBy w3 v.ownBlock) (hown : w3.ownsRow w.heap.size 44 2 v' (V.length + 1) (flatE (entN F V.reverse) ++ [.string z, .int .i64 (c : Int)])) (hn : v' ≠ .slice none 0 0) : LsR w w3 v' F (z :: V) := by
  refine ⟨?_, g2.grown hgrow fun x hx => .inr (hl x hx), hn⟩
  have e : flatE (entN F (z :: V).reverse) = flatE (entN F V.reverse) ++ [.string z, .int .i64 (c : Int)] := by
    rw [List.reverse_cons]
    unfold entN
    rw [List.map_append, flatE_app]
    simp only [List.map_cons, List.map_nil, flatE, hz, Option.getD_some]
  rw [e]
  exact hown
set_option maxHeartbeats 8000000 in
set_option maxRecDepth 100000 in
theorem dlist_any {w : World} {A : DiA} {F : ByteArray → Option Nat} {N : List ByteArray} (h : DiIs w A F N) : Calls Tryd.prog 22 #[.pointer (some ⟨A.db, 0, none⟩)] w fun e w' => ∃ (g cap : Nat) (L : List (ByteArray × Nat)), e = .returned (.slice (some ⟨g, 0, none⟩) L.length cap) ∧ w.heap.size ≤ g ∧ g < w'.heap.size ∧ EntAt w' g L ∧ SrtF F L ∧ L.length = N.length ∧ Gr [] w w' := by
  have undStr := Tryd.underlying9
  have undMap : Tryd.prog.underlying 59 = some (.map 9 3) := Tryd.underlying59
  obtain ⟨i0, hi, hz0, hz1, hz2⟩ := info_parts infoE17
  have hnb := h.nb
  obtain ⟨cur, hcur, hmk⟩ := makeE_run N.length (by omega)
  have c0 := h.hd.cell 0
  have c1 := h.hd.cell 1
  have HH := Lib.hid h
  have H1 := Lib.hid (show LsR w (w.alloc (.cells cur 44)) (.slice (some ⟨w.heap.size, 0, none⟩) 0 N.length) F [] from
    ⟨World.ownsRow_made w cur N.length (Nat.le_refl _) (by unfold maxLen; omega) hcur, (Gr.refl _ w).alloc _, by simp⟩)
  have c0a := (HH.out.gr0 ((Gr.refl [] w).alloc (Obj.cells cur 44))).hd.cell 0
  clear h hcur
  go_enter Tryd.func22, Tryd.ntmps22
  go_upto_region 4 with fail
  generalize (w.alloc (.cells cur 44)) = w1 at *
  obtain ⟨lb, hlb⟩ : ∃ x, w.heap.size = x := ⟨_, rfl⟩
  rw [hlb] at H1 ⊢
  clear hlb hmk c0 c1
  go_upto_region 5 with fail
  go_loopw [3, 20] (fun v z wr => ∃ (k : Nat) (V : List ByteArray), k ≤ A.nb ∧ z = .int .i64 (k : Int) ∧ LsR w wr v F V ∧ MvB N V A.nb k) (fun _ z _ => A.nb - (intOf z).toNat)
  case atStart => exact ⟨0, [], by omega, rfl, H1.out, List.nodup_nil, fun s => by simp⟩
  case round =>
    clear H1
    obtain ⟨k, V, hk, rfl, S, M⟩ := hrel
    have HS := Lib.hid S
    have HM := Lib.hid M
    clear S M
    by_cases hlt : k < A.nb
    · have H2 := HH.out.gr0 HS.out.gr
      have ck := H2.bk.at' k hlt
      have HMo := Lib.hid (H2.bk.mp k hlt)
      have HLo := Lib.hid (HH.out.bk.mp k hlt).lt
      have b1 : (k : Int) < (A.nb : Int) := by omega
      have b2 : (0 : Int) ≤ (k : Int) := by omega
      clear H2
      go_wp2_with (at_range; refine wp_rangeT rfl _ rfl rfl HMo.out undStr undMap ?_; intro w2 cnt R2 G2 hs2)
      have HI := Lib.hid (show ∃ r, r = wr.heap.size ∧ LsI w w2 A u3 F N V k r (fun z => (atB A.nb k F z).isSome) cnt from
        ⟨_, rfl, ⟨own_gr0 HS.out.own G2, HS.out.gr.next0 G2, HS.out.nn⟩, HM.out.start HH.out.ok, R2, HS.out.gr.size⟩)
      clear R2 G2 hs2 ck HMo b1 b2 HS HM
      generalize wr.heap.size = r at *
      obtain ⟨r', rfl, I⟩ := HI.out
      have HI := Lib.hid I
      clear I
      go_frame
      go_loopg [3] cnt (fun g v wr => ∃ V left, LsI w wr A v F N V k r' left g)
      case atStart => exact ⟨_, _, HI.out⟩
      case round =>
        clear HI
        obtain ⟨V, left, Q⟩ := hrel
        have HQ := Lib.hid Q
        clear Q
        go_wp2_with (at_next; refine wp_nextT rfl _ rfl rfl HQ.out.ran undStr ?_ ?_)
        · intro hdone
          have HD := Lib.hid (And.intro HQ.out.ls (HQ.out.mv.done HH.out.ok hdone))
          clear hdone HQ
          go_wp2_with fail
          go_roundw
          case rel => exact ⟨k + 1, _, by omega, by go_num, HD.out.1, HD.out.2⟩
          case measure => simp [intOf]; omega
        · intro z c w3 cnt' hz hl hf R1 hlt2 G1 hs1 hen
          obtain ⟨q1, q2, q3⟩ := HQ.out.mv.step HH.out.ok hl hf
          have he2 : (Instr.entry (.pointer (some ⟨r', 0, none⟩))).run Tryd.prog w3 = .ok (.tuple #[.string z, .int .i64 (c : Int)]) w3 := hen
          have hnr := own_ran HQ.out.ls.own HQ.out.ran
          have hown := own_gr HQ.out.ls.own G1 fun x hx e => hnr x hx (List.mem_singleton.1 e)
          have hg3 := HQ.out.ls.gr.nextN G1 fun x hx => .inr (by rw [List.mem_singleton] at hx; have := HQ.out.lr; omega)
          have HA5 := Lib.hid (hown.alloc (Obj.cells #[.string z, .int .i64 (c : Int)] 44))
          have HN5 := Lib.hid (Go.Proofs.YtefiapmgdjlnnaaDoor.Holds.new w3 #[.string z, .int .i64 (c : Int)] 44)
          have one5 : ∀ u ∈ [Value.string z, Value.int .i64 (c : Int)], u.oneCell' = true := by simp [Value.oneCell']
          have HZ := Lib.hid (And.intro q1 (And.intro q2 (And.intro q3 (And.intro hg3 (And.intro R1 hlt2)))))
          have hvl : V.length ≤ N.length := nodup_sub HQ.out.mv.nd fun s hs => ((HQ.out.mv.mem s).1 hs).1
          have hsz3 := hg3.size
          clear q1 q2 q3 hg3 R1 hlt2 hl hf G1 hs1 hen hown hnr
          go_wp2_with (at_builtin; refine wpList_append_own _ rfl _ _ 49 rfl w.heap.size 44 i0 _ 2 24 Tryd.underlying49 hi hz0 hz1 hz2 rfl (by decide) _ _ _ rfl HA5.out ⟨w3.heap.size, 0, none⟩ 1 1 [.string z, .int .i64 (c : Int)] rfl rfl ?c1 ?c2 ?c3 ?c4 ?c5 ?_)
          case c1 =>
            intro a u ha
            match a, ha with
            | 0, ha => simp at ha; subst ha; simp [Addr.add]
            | 1, ha => simp at ha; subst ha; simp [Addr.add]
          case c2 => exact one5
          case c3 => unfold maxLen; omega
          case c4 => omega
          case c5 => rw [World.size_alloc]; omega
          intro v' w5 hown5 hgrow hnn
          have HN2 := Lib.hid (show LsI w w5 A v' F N (z :: V) k r' (fun y => left y && decide (y ≠ z)) cnt' from by
            have hl5 : ∀ x, u3.ownBlock = some x → w.heap.size ≤ x := fun x hx => (HQ.out.ls.own.lt x hx).1
            have ls := HQ.out.ls.take HZ.out.1 (HZ.out.2.2.2.1.alloc _) hl5 hgrow hown5 hnn
            have R4 := HZ.out.2.2.2.2.1.gr0 ((Gr.refl [] w3).alloc (Obj.cells #[.string z, .int .i64 (c : Int)] 44))
            have R5 := R4.gr (Gr.ofGrown hgrow) (fun e => by
              have := hl5 _ (by simpa using e)
              have := HLo.out
              omega) (fun e => own_ran HQ.out.ls.own HQ.out.ran _ (by simpa using e) rfl)
            exact ⟨ls, HZ.out.2.2.1, by simpa using R5, HQ.out.lr⟩)
          clear hown5 hgrow hnn HA5 HN5 he2
          go_wp2_with fail
          go_roundg cnt'
          case measure => exact HZ.out.2.2.2.2.2
          case rel => exact ⟨_, _, HN2.out⟩
    · obtain rfl : k = A.nb := by omega
      have hp := HM.out.all HH.out.ok fun e => by omega
      obtain ⟨gb, cap, hv, hgl, hgh⟩ : ∃ gb cap, u3 = .slice (some ⟨gb, 0, none⟩) V.length cap ∧ w.heap.size ≤ gb ∧ gb < wr.heap.size := by
        rcases HS.out.own.2 with ⟨h0, _⟩ | ⟨gb, cap, cur, hv, hb, hg, _⟩
        · exact absurd h0 HS.out.nn
        · exact ⟨gb, cap, hv, hb, (Array.getElem?_eq_some_iff.1 hg).1⟩
      subst hv
      have hel : V.length = (entN F V.reverse).length := by unfold entN; simp
      have hH := holdsE HS.out.own hel
      have HSo := Lib.hid (sortE gb cap (entN F V.reverse).toArray wr hH hgh (by rw [List.size_toArray, ← hel, hp.length_eq]; omega))
      rw [List.size_toArray, ← hel] at HSo
      have HP := Lib.hid (And.intro hp (And.intro hgl HS.out.gr))
      have HG5 := Lib.hid hgh
      clear hH hel hp hgl hgh HS HM hlt hk
      go_wp2_with fail
      refine HSo.out.mono ?_
      rintro e w6 ⟨rfl, d', h1, h2, h3, h4, h5⟩
      have hr : V.reverse.Perm N := (List.reverse_perm V).trans HP.out.1
      have hlen : d'.toList.length = V.length := by rw [Array.length_toList, h1]
      have HL := Lib.hid (show w.heap.size ≤ gb ∧ gb < w6.heap.size ∧ EntAt w6 gb d'.toList ∧ SrtF F d'.toList ∧ d'.toList.length = N.length ∧ Gr [] w w6 from
        ⟨HP.out.2.1, Nat.lt_of_lt_of_le HG5.out h5.size, entAt_of h4, srt_of HH.out.ok hr (by simpa using h2) h3, by rw [hlen, HP.out.1.length_eq], HP.out.2.2.nextN h5 fun x hx => .inr (by rw [List.mem_singleton] at hx; have := HP.out.2.1; omega)⟩)
      have hlen' := Lib.hid hlen
      clear h1 h2 h3 h4 h5 hr hlen HSo
      go_wp2_with fail
      go_ret
      rw [← hlen'.out]
      exact ⟨gb, cap, d'.toList, rfl, HL.out⟩
end Go.Proofs.YtefiapmgdjlnnaaDoor

/-
  Slices that come in as arguments of a law, opened: of integers.
-/
namespace Go.Proofs.YtefiapmgdjlnnaaDoor
open Go.ChangeShapes Go.WideShapes Go.ChangeAt Go.RowKit

/-- The slice v reads in w as the integers xs. -/
def SlI (k : IntKind) (w : World) (v : Value) (xs : List Int) : Prop :=
  (∃ ao cap, v = .slice ao 0 cap ∧ xs = [] ∧ (ao = none → cap = 0) ∧ cap ≤ maxLen) ∨
  ∃ b off cap, v = .slice (some ⟨b, off, none⟩) xs.length cap ∧ 0 < xs.length ∧ xs.length ≤ cap ∧ cap ≤ maxLen ∧ b < w.heap.size ∧ ∀ i x, xs[i]? = some x → w.cell? ⟨b, off + i, none⟩ = some (.int k x)

theorem open_il {H : Type} {enc : TypeId × Value → H} {P : Program} {w : World} {b0 base : Nat} {held : Bool} {t e : TypeId} {k : IntKind} {v : Value} {d : DataW H} {p : List MemPlace}
    (ht : P.underlying t = some (.slice e)) (he : P.underlying e = some (.int k)) (hc : P.cellsOf e = 1)
    (hv : Value.okWide P w .any b0 t v) (h : DataW.Trod enc P w base (fun _ => true) held t v d p) :
    ∃ xs : List Int, SlI k w v xs ∧ ∀ x ∈ xs, (Lit.int k x).wf = true := by
  obtain ⟨a0, len, cap, rfl⟩ := okWide_slice ht hv
  obtain ⟨fuel, hf⟩ := h
  rcases open_ints ht he hc hf with ⟨hcs, hx⟩ | ⟨a, len', cap', zs, hcs, _, hl, hm, hz, hx, hcell, hwz⟩
  · simp [Value.cells] at hcs
    obtain ⟨rfl, rfl, rfl⟩ := hcs
    exact ⟨[], .inl ⟨none, 0, rfl, rfl, fun _ => rfl, Nat.zero_le _⟩, fun x hx => by cases hx⟩
  · simp [Value.cells] at hcs
    obtain ⟨rfl, rfl, rfl⟩ := hcs
    simp only [if_true] at hz
    by_cases h0 : len = 0
    · subst h0
      exact ⟨[], .inl ⟨some a, cap, rfl, rfl, (fun e => by cases e), hm⟩, (fun x hx => by cases hx)⟩
    · obtain ⟨b, off, spot⟩ := a
      have hspot : spot = none := by simpa [Addr.add] using World.cell?_spot (hcell 0 (by omega))
      subst hspot
      have hlen : (zs.take len).length = len := by simp; omega
      refine ⟨zs.take len, .inr ⟨b, off, cap, by rw [hlen], by omega, by omega, hm, ?_, fun i x hi => ?_⟩, fun x hx => hwz x (List.mem_of_mem_take hx)⟩
      · have := block_lt_of_cell (hcell 0 (by omega))
        simpa [Addr.add] using this
      · have hil : i < len := by
          have := (List.getElem?_eq_some_iff.1 hi).1
          rw [hlen] at this
          exact this
        have hc1 := hcell i (by omega)
        rw [add_plain] at hc1
        rw [hc1]
        rw [List.getElem?_take_of_lt hil] at hi
        simp [List.getD, hi]

end Go.Proofs.YtefiapmgdjlnnaaDoor

/-
  Layer 17 (dir): DirKeeps' walk.
-/
namespace Go.Proofs.YtefiapmgdjlnnaaDoor
open Go.RowKit Go.Shelf
set_option linter.unusedVariables false

theorem itoa_nat (i : Nat) (hi : i < 1000000) (w : World) (htab : Lib.TabIs Tryd.prog w "internal/strconv.uint64pow10" .u64 Lib.pow10Tab) : Calls Tryd.prog 25 #[.int .i64 (i : Int)] w fun e w' => e = .returned (.string ⟨(Lib.decDigits i).toArray⟩) ∧ Gr [] w w' := by
  have h := Any.strconv_Itoa DiF.ito (i : Int) (by omega) (by omega) w htab
  rw [DiF.fIto, Lib.itoa_nonneg] at h
  refine h.mono ?_
  rintro e w' ⟨rfl, k, os, rfl⟩
  refine ⟨rfl, rfl, rfl, rfl, ?_, fun x hx _ => ?_⟩
  · show w.heap.size ≤ (w.heap ++ os).size
    rw [Array.size_append]; exact Nat.le_add_right _ _
  · show (w.heap ++ os)[x]? = w.heap[x]?
    rw [Array.getElem?_append_left hx]
theorem putN_len (F : ByteArray → Option Nat) (N : List ByteArray) (s : ByteArray) : (putN F N s).length = if (F s).isSome then N.length else N.length + 1 := by
  unfold putN
  split <;> simp
section
variable {w wr w2 w3 : World} {A A' : DiA} {kb i : Nat} {F : ByteArray → Option Nat} {N : List ByteArray} {s : ByteArray}
end
end Go.Proofs.YtefiapmgdjlnnaaDoor
