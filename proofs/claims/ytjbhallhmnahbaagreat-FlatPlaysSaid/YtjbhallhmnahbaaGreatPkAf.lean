/-
  PkAf: PmK, PmW.
-/
import Derived.Test.YtjbhallhmnahbaaGreatPkAe
import Derived.Shelf.SlIterI.Nil
import Derived.Shelf.SortM.Plain
import Derived.Shelf.SortM.SortNone
import Derived.Ground.GgzProg
import Derived.Ground.SlgmProg

set_option linter.unusedVariables false

/-
  pm: Pending.
-/
namespace Go.Proofs.YtjbhallhmnahbaaGreat
open Go.RowKit Go.Sort Go.Shelf

/-! What the kit's commands lay, written out (marks: every seat). -/
def PmK.keysA_ren : Go.Shelf.Ren := ⟨fun | 7 => 133 | 10 => 176 | n => n, fun | 23 => 100 | 26 => 3 | 3 => 144 | 28 => 206 | 0 => 0 | 27 => 205 | 33 => 141 | 4 => 4 | n => n, fun | n => n⟩
theorem PmK.keysA : Go.Proofs.SlLaysZI.n7 Tryz.prog PmK.keysA_ren where
  mixed := by kernel_rfl
  f7 := ⟨ "maps.Keys[map[int]gabion/pm.cell,int,gabion/pm.cell]", by decide, Tryz.func133.trans (congrArg some (by kernel_rfl))⟩
  f10 := ⟨ "maps.Keys[map[int]gabion/pm.cell,int,gabion/pm.cell]$1", by decide, Tryz.func176.trans (congrArg some (by kernel_rfl))⟩
  t0 := Tryz.underlying0
  a0 := Tryz.isAgg0
  z0 := Tryz.sizeOf0
  v0 := Tryz.zeroValue0
  t4 := Tryz.underlying4
  a4 := Tryz.isAgg4
  z4 := Tryz.sizeOf4
  v4 := Tryz.zeroValue4
  t23 := Tryz.underlying100
  a23 := Tryz.isAgg100
  z23 := Tryz.sizeOf100
  v23 := Tryz.zeroValue100
  t26 := Tryz.underlying3
  a26 := Tryz.isAgg3
  z26 := Tryz.sizeOf3
  v26 := Tryz.zeroValue3
  t27 := Tryz.underlying205
  a27 := Tryz.isAgg205
  z27 := Tryz.sizeOf205
  v27 := Tryz.zeroValue205
  t28 := Tryz.underlying206
  a28 := Tryz.isAgg206
  z28 := Tryz.sizeOf206
  v28 := Tryz.zeroValue206
  t33 := Tryz.underlying141
  a33 := Tryz.isAgg141
  z33 := Tryz.sizeOf141
  v33 := Tryz.zeroValue141
def PmK.sortedA_ren : Go.Shelf.Ren := ⟨fun | 6 => 132 | 8 => 174 | 9 => 175 | 11 => 194 | 13 => 196 | 12 => 195 | 23 => 208 | 24 => 209 | 14 => 199 | 15 => 200 | 16 => 201 | 17 => 202 | 18 => 203 | 19 => 204 | 20 => 205 | 21 => 206 | 22 => 207 | 25 => 211 | 26 => 212 | 27 => 213 | 28 => 214 | 29 => 215 | 30 => 216 | 31 => 217 | n => n, fun | 26 => 3 | 28 => 206 | 24 => 61 | 0 => 0 | 3 => 3 | 37 => 185 | 48 => 80 | 50 => 22 | 4 => 4 | 40 => 261 | 39 => 260 | 45 => 241 | 5 => 5 | 9 => 9 | 51 => 269 | 55 => 272 | 57 => 274 | 58 => 70 | 33 => 141 | n => n, fun | n => n⟩
theorem PmK.sortedA : Go.Proofs.SlLaysZI.n6 Tryz.prog PmK.sortedA_ren where
  mixed := by kernel_rfl
  f6 := ⟨ "slices.Sorted[int]", by decide, Tryz.func132.trans (congrArg some (by kernel_rfl))⟩
  f8 := ⟨ "slices.Collect[int]", by decide, Tryz.func174.trans (congrArg some (by kernel_rfl))⟩
  f11 := ⟨ "slices.AppendSeq[[]int,int]", by decide, Tryz.func194.trans (congrArg some (by kernel_rfl))⟩
  t0 := Tryz.underlying0
  a0 := Tryz.isAgg0
  z0 := Tryz.sizeOf0
  v0 := Tryz.zeroValue0
  t24 := Tryz.underlying61
  a24 := Tryz.isAgg61
  z24 := Tryz.sizeOf61
  v24 := Tryz.zeroValue61
  t26 := Tryz.underlying3
  a26 := Tryz.isAgg3
  z26 := Tryz.sizeOf3
  v26 := Tryz.zeroValue3
  t28 := Tryz.underlying206
  a28 := Tryz.isAgg206
  z28 := Tryz.sizeOf206
  v28 := Tryz.zeroValue206
  i26 := by kernel_rfl
def PmK.sortA_ren : Go.Shelf.Ren := ⟨fun | 5 => 175 | 8 => 196 | 7 => 195 | 19 => 208 | 20 => 209 | 10 => 199 | 11 => 200 | 12 => 201 | 13 => 202 | 14 => 203 | 15 => 204 | 16 => 205 | 17 => 206 | 18 => 207 | 30 => 211 | 31 => 212 | 32 => 213 | 33 => 214 | 34 => 215 | 35 => 216 | 40 => 217 | n => n, fun | 23 => 61 | 25 => 3 | 3 => 3 | 32 => 185 | 22 => 61 | 0 => 0 | 44 => 80 | 46 => 22 | 4 => 4 | 36 => 261 | 35 => 260 | 41 => 241 | 5 => 5 | 9 => 9 | 53 => 269 | 57 => 272 | 63 => 274 | 64 => 70 | n => n, fun | n => n⟩
theorem PmK.sortA : Go.Proofs.SlLaysM.n5 Tryz.prog PmK.sortA_ren where
  mixed := by kernel_rfl
  f5 := ⟨ "slices.Sort[[]int,int]", by decide, Tryz.func175.trans (congrArg some (by kernel_rfl))⟩
  f7 := ⟨ "slices.pdqsortOrdered[int]", by decide, Tryz.func195.trans (congrArg some (by kernel_rfl))⟩
  f8 := Tryz.func196.trans (congrArg some (by kernel_rfl))
  f10 := ⟨ "slices.insertionSortOrdered[int]", by decide, Tryz.func199.trans (congrArg some (by kernel_rfl))⟩
  f11 := ⟨ "slices.heapSortOrdered[int]", by decide, Tryz.func200.trans (congrArg some (by kernel_rfl))⟩
  f12 := ⟨ "slices.breakPatternsOrdered[int]", by decide, Tryz.func201.trans (congrArg some (by kernel_rfl))⟩
  f13 := ⟨ "slices.choosePivotOrdered[int]", by decide, Tryz.func202.trans (congrArg some (by kernel_rfl))⟩
  f14 := ⟨ "slices.reverseRangeOrdered[int]", by decide, Tryz.func203.trans (congrArg some (by kernel_rfl))⟩
  f15 := ⟨ "slices.partialInsertionSortOrdered[int]", by decide, Tryz.func204.trans (congrArg some (by kernel_rfl))⟩
  f16 := ⟨ "cmp.Less[int]", by decide, Tryz.func205.trans (congrArg some (by kernel_rfl))⟩
  f17 := ⟨ "slices.partitionEqualOrdered[int]", by decide, Tryz.func206.trans (congrArg some (by kernel_rfl))⟩
  f18 := ⟨ "slices.partitionOrdered[int]", by decide, Tryz.func207.trans (congrArg some (by kernel_rfl))⟩
  f19 := Tryz.func208.trans (congrArg some (by kernel_rfl))
  f20 := Tryz.func209.trans (congrArg some (by kernel_rfl))
  f30 := ⟨ "slices.siftDownOrdered[int]", by decide, Tryz.func211.trans (congrArg some (by kernel_rfl))⟩
  f31 := Tryz.func212.trans (congrArg some (by kernel_rfl))
  f32 := Tryz.func213.trans (congrArg some (by kernel_rfl))
  f33 := ⟨ "slices.medianAdjacentOrdered[int]", by decide, Tryz.func214.trans (congrArg some (by kernel_rfl))⟩
  f34 := ⟨ "slices.medianOrdered[int]", by decide, Tryz.func215.trans (congrArg some (by kernel_rfl))⟩
  f35 := ⟨ "cmp.isNaN[int]", by decide, Tryz.func216.trans (congrArg some (by kernel_rfl))⟩
  f40 := ⟨ "slices.order2Ordered[int]", by decide, Tryz.func217.trans (congrArg some (by kernel_rfl))⟩
  t0 := Tryz.underlying0
  a0 := Tryz.isAgg0
  z0 := Tryz.sizeOf0
  v0 := Tryz.zeroValue0
  t3 := Tryz.underlying3
  a3 := Tryz.isAgg3
  z3 := Tryz.sizeOf3
  v3 := Tryz.zeroValue3
  t4 := Tryz.underlying4
  a4 := Tryz.isAgg4
  z4 := Tryz.sizeOf4
  v4 := Tryz.zeroValue4
  t5 := Tryz.underlying5
  a5 := Tryz.isAgg5
  z5 := Tryz.sizeOf5
  v5 := Tryz.zeroValue5
  t9 := Tryz.underlying9
  a9 := Tryz.isAgg9
  z9 := Tryz.sizeOf9
  v9 := Tryz.zeroValue9
  t22 := Tryz.underlying61
  a22 := Tryz.isAgg61
  z22 := Tryz.sizeOf61
  v22 := Tryz.zeroValue61
  t23 := Tryz.underlying61
  a23 := Tryz.isAgg61
  z23 := Tryz.sizeOf61
  v23 := Tryz.zeroValue61
  t25 := Tryz.underlying3
  a25 := Tryz.isAgg3
  z25 := Tryz.sizeOf3
  v25 := Tryz.zeroValue3
  t32 := Tryz.underlying185
  a32 := Tryz.isAgg185
  z32 := Tryz.sizeOf185
  v32 := Tryz.zeroValue185
  t35 := Tryz.underlying260
  a35 := Tryz.isAgg260
  z35 := Tryz.sizeOf260
  v35 := Tryz.zeroValue260
  t36 := Tryz.underlying261
  a36 := Tryz.isAgg261
  z36 := Tryz.sizeOf261
  v36 := Tryz.zeroValue261
  t41 := Tryz.underlying241
  a41 := Tryz.isAgg241
  z41 := Tryz.sizeOf241
  v41 := Tryz.zeroValue241
  t44 := Tryz.underlying80
  a44 := Tryz.isAgg80
  z44 := Tryz.sizeOf80
  v44 := Tryz.zeroValue80
  t46 := Tryz.underlying22
  a46 := Tryz.isAgg22
  z46 := Tryz.sizeOf22
  v46 := Tryz.zeroValue22
  t53 := Tryz.underlying269
  a53 := Tryz.isAgg269
  z53 := Tryz.sizeOf269
  v53 := Tryz.zeroValue269
  t57 := Tryz.underlying272
  a57 := Tryz.isAgg272
  z57 := Tryz.sizeOf272
  v57 := Tryz.zeroValue272
  t63 := Tryz.underlying274
  a63 := Tryz.isAgg274
  z63 := Tryz.sizeOf274
  v63 := Tryz.zeroValue274
  t64 := Tryz.underlying70
  a64 := Tryz.isAgg70
  z64 := Tryz.sizeOf70
  v64 := Tryz.zeroValue70

theorem pmSorts (m : Nat) : AnyZI.SortsIn Tryz.prog PmK.sortedA_ren Fence.wide m :=
  ⟨fun blk off cap ss W hH hblk hsz => callsIn_wide.2 (AnyM.slices_Sort_int PmK.sortA blk off cap ss W hH hblk hsz), fun p cap W => callsIn_wide.2 (AnyM.slices_Sort_int_none PmK.sortA p cap W)⟩
theorem keys_call (mb : Option Nat) (W : World) : Calls Tryz.prog 133 #[.map mb] W fun e w' => e = .returned (.func (.func 176) #[] #[.pointer (some ⟨W.heap.size, 0, none⟩)]) ∧ w' = W.alloc (.cells #[.map mb] 100) :=
  (callsIn_wide (n := 5)).1 (AnyZI.keys_in PmK.keysA Fence.wide 5 trivial rfl mb W)
set_option maxHeartbeats 1000000 in
theorem sorted_call {H : Type} (b nn : Nat) (D0 : DataW H) (R : Value → Option (DataW H × List MemPlace)) (w : World) (hown : w.ownsMap Tryz.prog 3 R b nn D0) (hmax : Maps.size D0 ≤ maxLen) (hbytes : Maps.size D0 * 8 ≤ 140737488355328) :
    Calls Tryz.prog 132 #[.func (.func 176) #[] #[.pointer (some ⟨w.heap.size, 0, none⟩)]] (w.alloc (.cells #[.map (some b)] 100)) fun e w' => ∃ (v : Value) (ss : List Int), e = .returned v ∧ ss.Perm (intKeys D0) ∧
      w'.ownsRow (w.alloc (.cells #[.map (some b)] 100)).heap.size 3 1 v ss.length ((ss.mergeSort (fun x y => decide (x ≤ y))).map encZ) ∧ (v = .slice none 0 0 ↔ ss = []) ∧ Below (w.alloc (.cells #[.map (some b)] 100)).heap.size (w.alloc (.cells #[.map (some b)] 100)) w' := by
  refine (callsIn_wide (n := 5)).1 ?_
  have hbl := hown.lt
  have hseq : SeqGives Fence.wide 2 Tryz.prog 176 #[.pointer (some ⟨w.heap.size, 0, none⟩)] encZ (fun ss => ss.Perm (intKeys D0)) (Maps.size D0) (w.alloc (.cells #[.map (some b)] 100)) :=
    AnyZI.keys_gives (ρ := PmK.keysA_ren) { PmK.keysA with } Fence.wide _ trivial rfl (by omega) w.heap.size b nn D0 _ (by simp) (by simp) (by
      obtain ⟨es, clock, hb, Ft, hs, hD⟩ := hown
      exact ⟨es, clock, (Below.heap_alloc _ _ b hbl).trans hb, Ft, hs, hD⟩)
  exact AnyZI.sorted_in PmK.sortedA Fence.wide 5 trivial trivial trivial trivial rfl (by omega) (pmSorts _) (enters_of Tryz.func175 (by kernel_rfl) rfl) 176 #[.pointer (some ⟨w.heap.size, 0, none⟩)] trivial (enters_of Tryz.func176 (by kernel_rfl) rfl) _ _ hmax hbytes _ hseq

/-! ### The keys as a list of words -/
theorem keys_facts {P : Program} {k : TypeId} {H : Type} {R : Value → Option (DataW H × List MemPlace)} {w : World} {b n : Nat} {D0 : DataW H} (hown : w.ownsMap P k R b n D0) (hk : P.underlying k = some (.int .i64)) :
    (intKeys D0).Nodup ∧ ∀ x, x ∈ intKeys D0 ↔ Maps.has D0 (.int .i64 x) = true := by
  obtain ⟨es, hD, hpw, _⟩ := hown.entries (Maps.int_keyed hk)
  obtain ⟨es', hD', hko⟩ := hown.keysOf
  obtain rfl : es = es' := by rw [hD] at hD'; simpa using hD'
  subst hD
  have kx : ∀ p ∈ es, ∃ x, p.1 = Lit.int .i64 x := fun p hp => by
    obtain ⟨v, hv⟩ := hko p hp
    obtain ⟨x, _, hx, _⟩ := Maps.keyOf_i64 hk hv
    exact ⟨x, hx⟩
  constructor
  · show (es.map fun p => Go.intOf p.1).Nodup
    rw [List.Nodup, List.pairwise_map]
    refine hpw.imp_of_mem fun {p q} hp hq hne e => hne ?_
    obtain ⟨x, hx⟩ := kx p hp
    obtain ⟨y, hy⟩ := kx q hq
    rw [hx, hy] at e ⊢
    have e2 : x = y := e
    rw [e2]
  · intro x
    rw [Maps.has_eq, List.any_eq_true]
    show x ∈ es.map (fun p => Go.intOf p.1) ↔ _
    rw [List.mem_map]
    constructor
    · rintro ⟨p, hp, rfl⟩
      obtain ⟨y, hy⟩ := kx p hp
      refine ⟨p, hp, ?_⟩
      rw [hy]
      exact key_self y
    · rintro ⟨p, hp, hs⟩
      obtain ⟨y, hy⟩ := kx p hp
      rw [hy, key_is, decide_eq_true_eq] at hs
      exact ⟨p, hp, by rw [hy, ← hs]; rfl⟩

theorem own_base {w : World} {base base' : Nat} {e : TypeId} {size n : Nat} {v : Value} {xs : List Value} (h : w.ownsRow base e size v n xs) (hb : base' ≤ base) : w.ownsRow base' e size v n xs := by
  refine ⟨h.1, ?_⟩
  rcases h.2 with hz | ⟨g, cap, cur, hv, hg, rest⟩
  · exact .inl hz
  · exact .inr ⟨g, cap, cur, hv, Nat.le_trans hb hg, rest⟩
theorem pend_list {D : DevS} {w : World} {b n : Nat} (hok : DevOk D) {D0 : DataW Unit} (hown : w.ownsMap Tryz.prog 3 cellE.R b n D0) (hm : MIs cellE D0 D.buf) {ss : List Int} (hS : ss.Perm (intKeys D0)) :
    ∃ L : List Nat, IsPend D L ∧ L.length = ss.length ∧ (ss.mergeSort (fun x y => decide (x ≤ y))).map encZ = L.map iW := by
  obtain ⟨hnd, hmem⟩ := keys_facts hown undInt
  have hwf := intKeys_wf hown undInt
  have hM : ∀ z, z ∈ ss.mergeSort (fun x y => decide (x ≤ y)) ↔ z ∈ intKeys D0 := fun z => by rw [List.mem_mergeSort, hS.mem_iff]
  have hbuf : ∀ z, z ∈ intKeys D0 → D.buf z ≠ none := fun z hz e => by
    have := (hm z (hwf z hz)).1
    rw [(hmem z).1 hz, e] at this
    cases this
  have hpos : ∀ z, z ∈ ss.mergeSort (fun x y => decide (x ≤ y)) → 0 ≤ z := fun z hz => (hok.sup z (hbuf z ((hM z).1 hz))).1
  refine ⟨(ss.mergeSort (fun x y => decide (x ≤ y))).map Int.toNat, ⟨?_, ?_⟩, ?_, ?_⟩
  · have tr : ∀ a b c : Int, decide (a ≤ b) = true → decide (b ≤ c) = true → decide (a ≤ c) = true := fun a b c h1 h2 => by simp only [decide_eq_true_eq] at *; omega
    have to : ∀ a b : Int, (decide (a ≤ b) || decide (b ≤ a)) = true := fun a b => by simp only [Bool.or_eq_true, decide_eq_true_eq]; omega
    have h1 := List.pairwise_mergeSort tr to ss
    have h2 : (ss.mergeSort (fun x y => decide (x ≤ y))).Nodup := (((List.mergeSort_perm ss _).trans hS).nodup_iff).2 hnd
    rw [List.pairwise_map]
    refine (h1.and h2).imp_of_mem fun {x y} hx hy h => ?_
    have h3 := of_decide_eq_true h.1
    have h4 := h.2
    have h5 := hpos x hx
    have h6 := hpos y hy
    omega
  · intro x
    rw [List.mem_map]
    constructor
    · rintro ⟨z, hz, rfl⟩
      have := hpos z hz
      rw [Int.toNat_of_nonneg this]
      exact hbuf z ((hM z).1 hz)
    · intro hx
      have hs := hok.sup _ hx
      have hn := hok.hi
      refine ⟨(x : Int), (hM _).2 ((hmem _).2 ?_), by simp⟩
      rw [(hm (x : Int) (wfZ (by omega) (by omega))).1]
      cases hb : D.buf (x : Int) with
      | none => exact absurd hb hx
      | some _ => rfl
  · rw [List.length_map, List.length_mergeSort]
  · rw [List.map_map]
    refine List.map_congr_left fun z hz => ?_
    show encZ z = iW z.toNat
    unfold iW
    rw [Int.toNat_of_nonneg (hpos z hz)]

theorem pending_any (a : DevA) (D : DevS) (w : World) (h : DevIs w a D) (hc : D.cnt ≤ 17592186044416) :
    Calls Tryz.prog 73 #[.pointer (some ⟨a.bd, 0, none⟩)] w fun e w' => ∃ v L, e = .returned v ∧ IsPend D L ∧ w'.ownsRow w.heap.size 3 1 v L.length (L.map iW) ∧ (v = .slice none 0 0 ↔ L = []) ∧ Gr [] w w' := by
  have c1 := h.c1
  obtain ⟨D0, hown, hm⟩ := h.buf
  have hsz : Maps.size D0 ≤ 17592186044416 := Nat.le_trans hown.size_le hc
  have HS := Lib.hid (sorted_call a.bb D.cnt D0 cellE.R w hown (by unfold maxLen; omega) (by omega))
  have HP := Lib.hid (fun ss (hS : List.Perm ss (intKeys D0)) => pend_list h.ok hown hm hS)
  clear h hown hm hsz
  go_enter Tryz.func73, Tryz.ntmps73
  go_wp2_with fail
  refine (keys_call _ _).mono ?_
  rintro e w' ⟨rfl, rfl⟩
  go_wp2_with fail
  refine HS.out.mono ?_
  rintro e w' ⟨v, ss, rfl, hS, hrow, hnil, hb⟩
  have HR := Lib.hid (show ∃ L, IsPend D L ∧ w'.ownsRow w.heap.size 3 1 v L.length (L.map iW) ∧ (v = .slice none 0 0 ↔ L = []) ∧ Gr [] w w' by
    obtain ⟨L, h1, h2, h3⟩ := HP.out ss hS
    refine ⟨L, h1, ?_, ?_, ((Gr.refl [] w).alloc _).trans (.ofBelow hb)⟩
    · rw [h2, ← h3]
      exact own_base hrow (by simp)
    · rw [hnil, ← List.length_eq_zero_iff, ← h2, List.length_eq_zero_iff])
  clear hS hrow hnil hb
  go_wp2_with fail
  go_ret
  exact ⟨v, _, rfl, HR.out.choose_spec.1, HR.out.choose_spec.2.1, HR.out.choose_spec.2.2.1, HR.out.choose_spec.2.2.2⟩

theorem boot_any (a : DevA) (D : DevS) (kv : Value) (kl : Nat) (kp : Nat → Bool) (w : World) (h : DevIs w a D) (hk : KeepIs w kv kl kp) (hw : ∀ l, 0 ≤ D.wear l ∧ D.wear l < 4611686018427387904) (hc : D.cnt ≤ 17592186044416) :
    Calls Tryz.prog 28 #[.pointer (some ⟨a.bd, 0, none⟩), kv] w fun e w' => e = .returned (.tuple #[]) ∧ (∃ L, IsPend D L ∧ DevIs w' a (bootD D L kp)) ∧ Gr a.all w w' :=
  boot_of a D kv kl kp w h hk hw (pending_any a D w h hc)
end Go.Proofs.YtjbhallhmnahbaaGreat

/-
  Layer 3's laws: what the document fixes (wakes).
-/
namespace Go.Proofs.YtjbhallhmnahbaaGreat
open Go.RowKit

structure One (D : DevS) (m : Nat) (b : Option (Nat × Bool)) (v : Int) (c : Nat) : Prop where
  n : D.n = 2
  off : D.off = false
  fuse : D.fuse = 0
  cnt : D.cnt ≤ c
  wear : ∀ l, 0 ≤ D.wear l ∧ D.wear l ≤ (c : Int)
  med : D.med 0 = m
  buf : D.buf 0 = b
  at0 : D.wear 0 = v
  bad : D.bad 0 = false
  rest : ∀ z, z ≠ 0 → D.buf z = none
theorem live_e {D : DevS} {t : Bool} (h1 : D.off = false) (h2 : D.fuse = 0) (ht : t = true) : opE D t = 0 ∧ ∀ f, opD D t f = f D := by
  have hr : reachE D t = 0 := by unfold reachE; rw [h1, ht]; rfl
  have hl : lit D = D := by unfold lit; rw [if_neg (by omega)]
  exact ⟨opE_ok hr (by omega), fun f => by rw [opD_ok hr (by omega), hl]⟩
theorem bootS_none (L : List Nat) {kp : Nat → Bool} (hk : ∀ j, kp j = false) : bootS L kp = fun _ => false := by
  funext i
  unfold bootS
  rw [List.any_eq_false]
  intro j _
  simp [hk j]
theorem linesOf_none : linesOf (fun _ => false) = fun _ => false := by
  funext l
  cases h : linesOf (fun _ => false) l with
  | false => rfl
  | true => obtain ⟨i, hi, _⟩ := linesOf_iff.1 h; cases hi
theorem One.boot {D : DevS} {m c : Nat} {b : Option (Nat × Bool)} {v : Int} (h : One D m b v c) (L : List Nat) {kp : Nat → Bool} (hk : ∀ j, kp j = false) : One (bootD D L kp) m none v c := by
  have e : bootD D L kp = { D with buf := fun _ => none, fuse := 0, off := false } := by
    unfold bootD persistD
    rw [bootS_none L hk, linesOf_none, perMed_none]
    have : perWear D (fun _ => false) = D.wear := by funext l; simp [perWear]
    rw [this]
  rw [e]
  exact ⟨h.n, rfl, rfl, h.cnt, h.wear, h.med, rfl, h.at0, h.bad, fun _ _ => rfl⟩

section
variable {a : DevA} {w : World} {m c : Nat} {b : Option (Nat × Bool)} {v : Int}
end

end Go.Proofs.YtjbhallhmnahbaaGreat
