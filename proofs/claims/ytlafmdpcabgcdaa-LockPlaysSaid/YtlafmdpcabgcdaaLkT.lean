/-
  Layer 24: what the library's slices.Sort, slices.Sorted, slices.Compact, maps.DeleteFunc do, at this program's numbers.
-/
import Derived.Test.YtlafmdpcabgcdaaLkJ
import Derived.Test.YtlafmdpcabgcdaaLkG
import Derived.Shelf.SlIterI.Nil
import Derived.Shelf.SortM.Plain
import Derived.Shelf.SortM.SortNone
import Derived.Shelf.SlMaps.DeleteFunc
import Derived.Shelf.Slices.CompactI
import Derived.Lib.RowBridge
import Derived.Ground.GgzProg
import Derived.Ground.SlgmProg
import Derived.Ground.SlmdProg
import Derived.Ground.Names2Prog
namespace Go.Proofs.Ytlafmdpcabgcdaa
open Go.RowKit Go.Sort Go.Shelf

/-! What the kit's commands lay, written out (by wip/gen/saylay.py, saylay2.py, saymark.py). -/
def LkT.sort_ren : Go.Shelf.Ren := ⟨fun | 5 => 29 | 8 => 34 | 7 => 33 | 19 => 45 | 20 => 46 | 10 => 36 | 11 => 37 | 12 => 38 | 13 => 39 | 14 => 40 | 15 => 41 | 16 => 42 | 17 => 43 | 18 => 44 | 30 => 47 | 31 => 48 | 32 => 49 | 33 => 50 | 34 => 51 | 35 => 52 | 40 => 53 | n => n, fun | 23 => 32 | 25 => 3 | 3 => 3 | 32 => 72 | 22 => 32 | 0 => 0 | 44 => 82 | 46 => 84 | 4 => 4 | 36 => 76 | 35 => 75 | 41 => 66 | 5 => 5 | 9 => 9 | 53 => 85 | 57 => 89 | 63 => 91 | 64 => 92 | n => n, fun | n => n⟩
theorem LkT.sort : Go.Proofs.SlLaysM.n5 Try.prog LkT.sort_ren where
  mixed := by kernel_rfl
  f5 := ⟨ "slices.Sort[[]int,int]", by decide, Try.func29.trans (congrArg some (by kernel_rfl))⟩
  f7 := ⟨ "slices.pdqsortOrdered[int]", by decide, Try.func33.trans (congrArg some (by kernel_rfl))⟩
  f8 := Try.func34.trans (congrArg some (by kernel_rfl))
  f10 := ⟨ "slices.insertionSortOrdered[int]", by decide, Try.func36.trans (congrArg some (by kernel_rfl))⟩
  f11 := ⟨ "slices.heapSortOrdered[int]", by decide, Try.func37.trans (congrArg some (by kernel_rfl))⟩
  f12 := ⟨ "slices.breakPatternsOrdered[int]", by decide, Try.func38.trans (congrArg some (by kernel_rfl))⟩
  f13 := ⟨ "slices.choosePivotOrdered[int]", by decide, Try.func39.trans (congrArg some (by kernel_rfl))⟩
  f14 := ⟨ "slices.reverseRangeOrdered[int]", by decide, Try.func40.trans (congrArg some (by kernel_rfl))⟩
  f15 := ⟨ "slices.partialInsertionSortOrdered[int]", by decide, Try.func41.trans (congrArg some (by kernel_rfl))⟩
  f16 := ⟨ "cmp.Less[int]", by decide, Try.func42.trans (congrArg some (by kernel_rfl))⟩
  f17 := ⟨ "slices.partitionEqualOrdered[int]", by decide, Try.func43.trans (congrArg some (by kernel_rfl))⟩
  f18 := ⟨ "slices.partitionOrdered[int]", by decide, Try.func44.trans (congrArg some (by kernel_rfl))⟩
  f19 := Try.func45.trans (congrArg some (by kernel_rfl))
  f20 := Try.func46.trans (congrArg some (by kernel_rfl))
  f30 := ⟨ "slices.siftDownOrdered[int]", by decide, Try.func47.trans (congrArg some (by kernel_rfl))⟩
  f31 := Try.func48.trans (congrArg some (by kernel_rfl))
  f32 := Try.func49.trans (congrArg some (by kernel_rfl))
  f33 := ⟨ "slices.medianAdjacentOrdered[int]", by decide, Try.func50.trans (congrArg some (by kernel_rfl))⟩
  f34 := ⟨ "slices.medianOrdered[int]", by decide, Try.func51.trans (congrArg some (by kernel_rfl))⟩
  f35 := ⟨ "cmp.isNaN[int]", by decide, Try.func52.trans (congrArg some (by kernel_rfl))⟩
  f40 := ⟨ "slices.order2Ordered[int]", by decide, Try.func53.trans (congrArg some (by kernel_rfl))⟩
  t0 := Try.underlying0
  a0 := Try.isAgg0
  z0 := Try.sizeOf0
  v0 := Try.zeroValue0
  t3 := Try.underlying3
  a3 := Try.isAgg3
  z3 := Try.sizeOf3
  v3 := Try.zeroValue3
  t4 := Try.underlying4
  a4 := Try.isAgg4
  z4 := Try.sizeOf4
  v4 := Try.zeroValue4
  t5 := Try.underlying5
  a5 := Try.isAgg5
  z5 := Try.sizeOf5
  v5 := Try.zeroValue5
  t9 := Try.underlying9
  a9 := Try.isAgg9
  z9 := Try.sizeOf9
  v9 := Try.zeroValue9
  t22 := Try.underlying32
  a22 := Try.isAgg32
  z22 := Try.sizeOf32
  v22 := Try.zeroValue32
  t23 := Try.underlying32
  a23 := Try.isAgg32
  z23 := Try.sizeOf32
  v23 := Try.zeroValue32
  t25 := Try.underlying3
  a25 := Try.isAgg3
  z25 := Try.sizeOf3
  v25 := Try.zeroValue3
  t32 := Try.underlying72
  a32 := Try.isAgg72
  z32 := Try.sizeOf72
  v32 := Try.zeroValue72
  t35 := Try.underlying75
  a35 := Try.isAgg75
  z35 := Try.sizeOf75
  v35 := Try.zeroValue75
  t36 := Try.underlying76
  a36 := Try.isAgg76
  z36 := Try.sizeOf76
  v36 := Try.zeroValue76
  t41 := Try.underlying66
  a41 := Try.isAgg66
  z41 := Try.sizeOf66
  v41 := Try.zeroValue66
  t44 := Try.underlying82
  a44 := Try.isAgg82
  z44 := Try.sizeOf82
  v44 := Try.zeroValue82
  t46 := Try.underlying84
  a46 := Try.isAgg84
  z46 := Try.sizeOf84
  v46 := Try.zeroValue84
  t53 := Try.underlying85
  a53 := Try.isAgg85
  z53 := Try.sizeOf85
  v53 := Try.zeroValue85
  t57 := Try.underlying89
  a57 := Try.isAgg89
  z57 := Try.sizeOf89
  v57 := Try.zeroValue89
  t63 := Try.underlying91
  a63 := Try.isAgg91
  z63 := Try.sizeOf91
  v63 := Try.zeroValue91
  t64 := Try.underlying92
  a64 := Try.isAgg92
  z64 := Try.sizeOf92
  v64 := Try.zeroValue92
def LkT.sorted_ren : Go.Shelf.Ren := ⟨fun | 6 => 20 | 8 => 31 | 9 => 29 | 11 => 35 | 13 => 34 | 12 => 33 | 23 => 45 | 24 => 46 | 14 => 36 | 15 => 37 | 16 => 38 | 17 => 39 | 18 => 40 | 19 => 41 | 20 => 42 | 21 => 43 | 22 => 44 | 25 => 47 | 26 => 48 | 27 => 49 | 28 => 50 | 29 => 51 | 30 => 52 | 31 => 53 | n => n, fun | 26 => 3 | 28 => 58 | 24 => 32 | 0 => 0 | 3 => 3 | 37 => 72 | 48 => 82 | 50 => 84 | 4 => 4 | 40 => 76 | 39 => 75 | 45 => 66 | 5 => 5 | 9 => 9 | 51 => 85 | 55 => 89 | 57 => 91 | 58 => 92 | 33 => 69 | n => n, fun | n => n⟩
theorem LkT.sorted : Go.Proofs.SlLaysZI.n6 Try.prog LkT.sorted_ren where
  mixed := by kernel_rfl
  f6 := ⟨ "slices.Sorted[int]", by decide, Try.func20.trans (congrArg some (by kernel_rfl))⟩
  f8 := ⟨ "slices.Collect[int]", by decide, Try.func31.trans (congrArg some (by kernel_rfl))⟩
  f11 := ⟨ "slices.AppendSeq[[]int,int]", by decide, Try.func35.trans (congrArg some (by kernel_rfl))⟩
  t0 := Try.underlying0
  a0 := Try.isAgg0
  z0 := Try.sizeOf0
  v0 := Try.zeroValue0
  t24 := Try.underlying32
  a24 := Try.isAgg32
  z24 := Try.sizeOf32
  v24 := Try.zeroValue32
  t26 := Try.underlying3
  a26 := Try.isAgg3
  z26 := Try.sizeOf3
  v26 := Try.zeroValue3
  t28 := Try.underlying58
  a28 := Try.isAgg58
  z28 := Try.sizeOf58
  v28 := Try.zeroValue58
  i26 := by kernel_rfl
def LkT.del_ren : Go.Shelf.Ren := ⟨fun | 5 => 25 | n => n, fun | 23 => 53 | 26 => 3 | 24 => 3 | 27 => 48 | 0 => 0 | 4 => 4 | n => n, fun | n => n⟩
theorem LkT.del : Go.Proofs.SlLaysDf.n5 Try.prog LkT.del_ren where
  mixed := by kernel_rfl
  f5 := ⟨ "maps.DeleteFunc[map[int]int,int,int]", by decide, Try.func25.trans (congrArg some (by kernel_rfl))⟩
  t0 := Try.underlying0
  a0 := Try.isAgg0
  z0 := Try.sizeOf0
  v0 := Try.zeroValue0
  t4 := Try.underlying4
  a4 := Try.isAgg4
  z4 := Try.sizeOf4
  v4 := Try.zeroValue4
  t23 := Try.underlying53
  a23 := Try.isAgg53
  z23 := Try.sizeOf53
  v23 := Try.zeroValue53
  a24 := Try.isAgg3
  z24 := Try.sizeOf3
  a26 := Try.isAgg3
  z26 := Try.sizeOf3
  t27 := Try.underlying48
  a27 := Try.isAgg48
  z27 := Try.sizeOf48
  v27 := Try.zeroValue48

def LkT.compact_ren : Go.Shelf.Ren := ⟨fun | 20 => 22 | n => n, fun | 22 => 32 | 3 => 3 | 4 => 4 | 0 => 0 | n => n, fun | n => n⟩
theorem LkT.compact : Go.Proofs.Lays2.n20 Try.prog LkT.compact_ren where
  mixed := by kernel_rfl
  f20 := Try.func22.trans (congrArg some (by kernel_rfl))
  t0 := Try.underlying0
  a0 := Try.isAgg0
  z0 := Try.sizeOf0
  v0 := Try.zeroValue0
  t3 := Try.underlying3
  a3 := Try.isAgg3
  z3 := Try.sizeOf3
  v3 := Try.zeroValue3
  t4 := Try.underlying4
  a4 := Try.isAgg4
  z4 := Try.sizeOf4
  v4 := Try.zeroValue4
  t22 := Try.underlying32
  a22 := Try.isAgg32
  z22 := Try.sizeOf32
  v22 := Try.zeroValue32
  i3 := by kernel_rfl



def srt (l : List Int) : List Int := l.mergeSort fun x y => decide (x ≤ y)
theorem srt_sorted (l : List Int) : (srt l).Pairwise (· ≤ ·) := by
  have tr : ∀ a b c : Int, decide (a ≤ b) = true → decide (b ≤ c) = true → decide (a ≤ c) = true := fun a b c h1 h2 => by simp only [decide_eq_true_eq] at *; omega
  have to : ∀ a b : Int, (decide (a ≤ b) || decide (b ≤ a)) = true := fun a b => by simp only [Bool.or_eq_true, decide_eq_true_eq]; omega
  exact (List.pairwise_mergeSort tr to l).imp fun h => of_decide_eq_true h
theorem srt_mem (l : List Int) (z : Int) : z ∈ srt l ↔ z ∈ l := List.mem_mergeSort
theorem srt_len (l : List Int) : (srt l).length = l.length := List.length_mergeSort _
theorem srt_rise {l : List Int} (h : l.Nodup) : Rise (srt l) := rise_sorted (List.mergeSort_perm l _) h (srt_sorted l)
/-- slices.Sort of a row of the call's own. -/
theorem sort_row {w : World} {base n : Nat} {v : Value} {l : List Int} (h : w.ownsRow base 3 1 v n (zv l)) (hl : l.length < 4611686018427387904) :
    Calls Try.prog 29 #[v] w fun e w' => e = .returned (.tuple #[]) ∧ w'.ownsRow base 3 1 v n (zv (srt l)) ∧ w.grownBy w' v.ownBlock := by
  have hn : n = l.length := by have := h.1; simp [zv] at this; omega
  subst hn
  rcases h.2 with ⟨rfl, h0⟩ | ⟨g, cap, cur, rfl, hg, hh, hc, hm, hs, ht⟩
  · obtain rfl := List.length_eq_zero_iff.1 h0
    refine (AnyM.slices_Sort_int_none LkT.sort none 0 w).mono ?_
    rintro e w' ⟨rfl, rfl⟩
    exact ⟨rfl, by simpa [srt] using h, ⟨rfl, rfl, rfl, Nat.le_refl _, fun _ _ _ => rfl⟩⟩
  · have hH : Go.Sort.Holds encZ w g 0 l.toArray := holds_of_block_i hh (by simpa [zv] using ht)
    refine (AnyM.slices_Sort_int LkT.sort g 0 cap l w hH (Array.getElem?_eq_some_iff.1 hh).1 hl).mono ?_
    rintro e w' ⟨rfl, k, os, rfl⟩
    exact ⟨rfl, ownsRow_sorted_i (by simp) hg hh hc hm hs, grownBy_sorted_i _⟩
theorem lkSorts (m : Nat) : AnyZI.SortsIn Try.prog LkT.sorted_ren Fence.wide m :=
  ⟨fun blk off cap ss W hH hblk hsz => callsIn_wide.2 (AnyM.slices_Sort_int LkT.sort blk off cap ss W hH hblk hsz), fun p cap W => callsIn_wide.2 (AnyM.slices_Sort_int_none LkT.sort p cap W)⟩

/-! ### Compact of what is sorted -/
theorem compact_up {zs : List Int} (h : zs.Pairwise (· ≤ ·)) (m : Nat) (hm : m ≤ zs.length) : Rise (Go.Lib.compactUpTo zs.toArray m) ∧ ∀ z, z ∈ Go.Lib.compactUpTo zs.toArray m ↔ z ∈ zs.take m := by
  induction m with
  | zero => exact ⟨by simpa [Go.Lib.compactUpTo] using Rise.nil, fun z => by simp [Go.Lib.compactUpTo]⟩
  | succ m ih =>
    obtain ⟨i1, i2⟩ := ih (by omega)
    have hlt : m < zs.length := by omega
    have hget : zs.toArray[m]! = zs[m] := by simp [hlt]
    have htake : zs.take (m + 1) = zs.take m ++ [zs[m]] := List.take_succ_eq_append_getElem hlt
    rw [Lib.compactUpTo_succ, htake, hget]
    have hle : ∀ z ∈ zs.take m, ∀ j (hj : j < zs.length), m - 1 ≤ j → z ≤ zs[j] := fun z hz j hj hmj => by
      obtain ⟨i, hi, rfl⟩ := List.mem_iff_getElem.1 hz
      rw [List.getElem_take]
      have hi2 : i < m := by simp at hi; omega
      by_cases e : i = j
      · subst e; exact Int.le_refl _
      · exact List.pairwise_iff_getElem.1 h i j (by omega) hj (by omega)
    by_cases q : Lib.keeps zs.toArray m = true
    · rw [if_pos q]
      refine ⟨?_, fun z => by simp only [List.mem_append, i2]⟩
      refine List.pairwise_append.2 ⟨i1, List.pairwise_singleton _ _, fun x hx y hy => ?_⟩
      rw [List.mem_singleton] at hy
      subst hy
      have hx2 := (i2 x).1 hx
      have hm0 : 0 < m := by
        rcases Nat.eq_zero_or_pos m with e | e
        · subst e; simp at hx2
        · exact e
      have h1 := hle x hx2 (m - 1) (by omega) (Nat.le_refl _)
      have h2 := List.pairwise_iff_getElem.1 h (m - 1) m (by omega) hlt (by omega)
      have h3 : zs[m - 1] ≠ zs[m] := by
        intro e
        unfold Lib.keeps at q
        simp [hlt, show m - 1 < zs.length by omega] at q
        rcases q with q | q
        · omega
        · exact q e.symm
      omega
    · rw [if_neg q]
      refine ⟨by simpa using i1, fun z => ?_⟩
      have hq : m ≠ 0 ∧ zs[m] = zs[m - 1]'(by omega) := by
        unfold Lib.keeps at q
        simp [hlt, show m - 1 < zs.length by omega] at q
        exact q
      simp only [List.append_nil, List.mem_append, List.mem_singleton, i2]
      constructor
      · exact .inl
      · rintro (p | p)
        · exact p
        · rw [p, hq.2]
          exact List.mem_iff_getElem.2 ⟨m - 1, by simp; omega, by rw [List.getElem_take]⟩
theorem compact_facts {zs : List Int} (h : zs.Pairwise (· ≤ ·)) : Rise (Go.Lib.compact zs) ∧ ∀ z, z ∈ Go.Lib.compact zs ↔ z ∈ zs := by
  obtain ⟨h1, h2⟩ := compact_up h zs.length (Nat.le_refl _)
  exact ⟨h1, fun z => by rw [show Go.Lib.compact zs = Go.Lib.compactUpTo zs.toArray zs.length from rfl, h2, List.take_length]⟩
/-- slices.Compact of a sorted row of the call's own. -/
theorem compact_row {w : World} {base n : Nat} {v : Value} {l : List Int} (h : w.ownsRow base 3 1 v n (zv l)) (hsrt : l.Pairwise (· ≤ ·)) :
    Calls Try.prog 22 #[v] w fun e w' => ∃ (v' : Value) (m : List Int), e = .returned v' ∧ v'.ownBlock = v.ownBlock ∧ Rise m ∧ (∀ z, z ∈ m ↔ z ∈ l) ∧ SlZ w' v' m ∧ w.grownBy w' v.ownBlock := by
  have hn : n = l.length := by have := h.1; simp [zv] at this; omega
  subst hn
  obtain ⟨f1, f2⟩ := compact_facts hsrt
  rcases h.2 with ⟨rfl, h0⟩ | ⟨g, cap, cur, rfl, hg, hh, hc, hm, hs, ht⟩
  · obtain rfl := List.length_eq_zero_iff.1 h0
    refine (Any.slices_Compact_int_empty LkT.compact none 0 w).mono ?_
    rintro e w' ⟨rfl, rfl⟩
    exact ⟨_, [], rfl, rfl, Rise.nil, fun z => Iff.rfl, ⟨none, 0, rfl, RdI.nil _ _, by simp, by unfold maxLen; omega, fun _ => rfl⟩, ⟨rfl, rfl, rfl, Nat.le_refl _, fun _ _ _ => rfl⟩⟩
  · have hH : Go.Sort.Holds encZ w g 0 l.toArray := holds_of_block_i hh (by simpa [zv] using ht)
    refine (Any.slices_Compact_int LkT.compact g 0 cap l w hH (by unfold maxLen at hm; omega) hc).mono ?_
    rintro e w' ⟨rfl, q, rfl⟩
    have hlc : (Go.Lib.compact l).length ≤ l.length := Go.Lib.compact_length_le l
    have hb : (putRow encZ (Sort.ahead w q) g 0 (Go.Lib.compact l ++ List.replicate (l.length - (Go.Lib.compact l).length) 0).toArray).heap[g]? = some (.cells (putCells encZ 0 (Go.Lib.compact l ++ List.replicate (l.length - (Go.Lib.compact l).length) 0).toArray cur) 3 (0, 0)) := by
      have := heap_sorted_i (n := q) (os := #[]) (Go.Lib.compact l ++ List.replicate (l.length - (Go.Lib.compact l).length) 0).toArray hh
      rwa [grow_empty] at this
    refine ⟨_, Go.Lib.compact l, rfl, rfl, f1, f2, ⟨_, cap, rfl, fun i x hi => ⟨g, 0, rfl, ?_, ?_⟩, by omega, hm, fun e => by cases e⟩, ?_⟩
    · exact (Array.getElem?_eq_some_iff.1 hb).1
    · have hx := take_putCells_i cur (Go.Lib.compact l ++ List.replicate (l.length - (Go.Lib.compact l).length) 0) (by simp; omega)
      have hil := (List.getElem?_eq_some_iff.1 hi).1
      have h2 := congrArg (fun L => L[i]?) hx
      rw [List.getElem?_take_of_lt (by simp; omega), List.getElem?_map, List.getElem?_append_left hil, hi] at h2
      rw [cell_of_row _ g _ _ _ _ hb, Nat.zero_add, ← Array.getElem?_toList]
      exact h2
    · have := grownBy_sorted_i (w := w) (g := g) (n := q) (os := #[]) (Go.Lib.compact l ++ List.replicate (l.length - (Go.Lib.compact l).length) 0).toArray
      rwa [grow_empty] at this

/-! ### maps.DeleteFunc -/
theorem find_filt {α : Type} {es : List α} (P f : α → Bool) (hu : es.Pairwise (fun p q => ¬ (P p = true ∧ P q = true))) :
    (es.filter f).find? P = (es.find? P).filter f := by
  induction es with
  | nil => rfl
  | cons e r ih =>
    obtain ⟨h1, h2⟩ := List.pairwise_cons.1 hu
    have ih := ih h2
    by_cases q : P e = true
    · have hr : (r.filter f).find? P = none := by
        rw [List.find?_eq_none]
        intro p hp hpp
        exact h1 p (List.mem_filter.1 hp).1 ⟨q, hpp⟩
      rw [List.find?_cons_of_pos (p := P) q]
      by_cases hf : f e = true
      · rw [List.filter_cons_of_pos hf, List.find?_cons_of_pos (p := P) q]; simp [Option.filter, hf]
      · rw [List.filter_cons_of_neg hf, hr]; simp [Option.filter, hf]
    · rw [List.find?_cons_of_neg (p := P) q]
      by_cases hf : f e = true
      · rw [List.filter_cons_of_pos hf, List.find?_cons_of_neg (p := P) q, ih]
      · rw [List.filter_cons_of_neg hf, ih]
theorem find_filter {es : List (Lit × DataW Unit)} (hap : es.Pairwise (fun p q => p.1 ≠ q.1)) (hk : ∀ p ∈ es, ∃ x, p.1 = Lit.int .i64 x) (z : Int) (f : Lit × DataW Unit → Bool) :
    (es.filter f).find? (fun p => p.1.sameKey (.int .i64 z)) = (es.find? (fun p => p.1.sameKey (.int .i64 z))).filter f := by
  refine find_filt (fun p : Lit × DataW Unit => p.1.sameKey (.int .i64 z)) f (hap.imp_of_mem fun {p q} hp hq hne h => hne ?_)
  obtain ⟨x, hx⟩ := hk p hp
  obtain ⟨y, hy⟩ := hk q hq
  obtain ⟨h1, h2⟩ := h
  simp only [hx, hy, key_is, decide_eq_true_eq] at h1 h2
  rw [hx, hy, h1, h2]
/-- Is an element that client? -/
def isC (c : Nat) : DataW Unit → Bool
  | .lit (.int .i64 v) => decide (v = (c : Int))
  | _ => false
theorem isC_enc (c d : Nat) : isC c (clEnc d) = decide (d = c) := by
  show decide ((d : Int) = (c : Int)) = decide (d = c)
  rw [decide_eq_decide]; omega
theorem delf_is {D : DataW Unit} {f : Int → Option Nat} (h : MIs clE D f) {k : TypeId} {w : World} {b n : Nat} (hown : w.ownsMap Try.prog k clE.R b n D) (hk : Try.prog.underlying k = some (.int .i64)) (c : Nat) :
    MIs clE (Go.Lib.deleteFuncD (fun _ yd => isC c yd) D) (fun x => if f x = some c then none else f x) := by
  obtain ⟨es, rfl, hap, hkk⟩ := hown.entries (Maps.int_keyed hk)
  obtain ⟨es', hD', hko⟩ := hown.keysOf
  obtain rfl : es = es' := by simpa using hD'
  have hkx : ∀ p ∈ es, ∃ x, p.1 = Lit.int .i64 x := fun p hp => by
    obtain ⟨v, hv⟩ := hko p hp
    obtain ⟨x, _, hx, _⟩ := Maps.keyOf_i64 hk hv
    exact ⟨x, hx⟩
  intro z hz
  obtain ⟨h1, h2⟩ := h z hz
  have hf := find_filter hap hkx z (fun p => !(isC c p.2))
  have ha : ∀ (L : List (Lit × DataW Unit)), Maps.has (.map L) (.int .i64 z) = (L.find? (fun p => p.1.sameKey (.int .i64 z))).isSome := fun L => by
    rw [Maps.has_eq, List.isSome_find?]
  have hat : ∀ (L : List (Lit × DataW Unit)) zd, (DataW.map L).atKey (.int .i64 z) zd = ((L.find? (fun p => p.1.sameKey (.int .i64 z))).map (·.2)).getD zd := fun L zd => by
    unfold DataW.atKey
    simp only
    cases L.find? (fun p => p.1.sameKey (.int .i64 z)) <;> rfl
  rw [ha] at h1
  simp only [hat] at h2
  unfold Go.Lib.deleteFuncD
  simp only
  rw [ha, hf]
  simp only [hat, hf]
  cases q : es.find? (fun p => p.1.sameKey (.int .i64 z)) with
  | none =>
    rw [q] at h1
    have : f z = none := by
      cases e : f z with
      | none => rfl
      | some d => rw [e] at h1; simp at h1
    simp [this]
  | some p =>
    rw [q] at h1
    simp only [q] at h2
    obtain ⟨d, hd⟩ : ∃ d, f z = some d := by
      cases e : f z with
      | none => rw [e] at h1; simp at h1
      | some d => exact ⟨d, rfl⟩
    have hp : p.2 = clEnc d := by have := h2 (clEnc 0); rw [hd] at this; simpa [clE] using this
    by_cases e : d = c
    · subst e
      have h8 := isC_enc d d
      simp [Option.filter, hp, hd, h8]
    · have h8 := isC_enc c d
      simp [Option.filter, hp, hd, h8, e, clE]
end Go.Proofs.Ytlafmdpcabgcdaa
