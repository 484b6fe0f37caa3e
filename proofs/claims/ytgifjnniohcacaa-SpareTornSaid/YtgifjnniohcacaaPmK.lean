/-
  pm: Pending.
-/
import Derived.Test.YtgifjnniohcacaaMgC
import Derived.Shelf.SlIterI.Nil
import Derived.Shelf.SortM.Plain
import Derived.Shelf.SortM.SortNone
import Derived.Ground.GgzProg
import Derived.Ground.SlgmProg
namespace Go.Proofs.Ytgifjnniohcacaa
open Go.RowKit Go.Sort Go.Shelf

/-! What the kit's commands lay, written out (marks: every seat). -/
def PmK.keysA_ren : Go.Shelf.Ren := ⟨fun | 7 => 64 | 10 => 79 | n => n, fun | 23 => 67 | 26 => 3 | 3 => 95 | 28 => 120 | 0 => 0 | 27 => 119 | 33 => 88 | 4 => 4 | n => n, fun | n => n⟩
theorem PmK.keysA : Go.Proofs.SlLaysZI.n7 Try.prog PmK.keysA_ren where
  mixed := by kernel_rfl
  f7 := ⟨ "maps.Keys[map[int]gabion/pm.cell,int,gabion/pm.cell]", by decide, Try.func64.trans (congrArg some (by kernel_rfl))⟩
  f10 := ⟨ "maps.Keys[map[int]gabion/pm.cell,int,gabion/pm.cell]$1", by decide, Try.func79.trans (congrArg some (by kernel_rfl))⟩
  t0 := Try.underlying0
  a0 := Try.isAgg0
  z0 := Try.sizeOf0
  v0 := Try.zeroValue0
  t4 := Try.underlying4
  a4 := Try.isAgg4
  z4 := Try.sizeOf4
  v4 := Try.zeroValue4
  t23 := Try.underlying67
  a23 := Try.isAgg67
  z23 := Try.sizeOf67
  v23 := Try.zeroValue67
  t26 := Try.underlying3
  a26 := Try.isAgg3
  z26 := Try.sizeOf3
  v26 := Try.zeroValue3
  t27 := Try.underlying119
  a27 := Try.isAgg119
  z27 := Try.sizeOf119
  v27 := Try.zeroValue119
  t28 := Try.underlying120
  a28 := Try.isAgg120
  z28 := Try.sizeOf120
  v28 := Try.zeroValue120
  t33 := Try.underlying88
  a33 := Try.isAgg88
  z33 := Try.sizeOf88
  v33 := Try.zeroValue88
def PmK.sortedA_ren : Go.Shelf.Ren := ⟨fun | 6 => 63 | 8 => 77 | 9 => 78 | 11 => 92 | 13 => 94 | 12 => 93 | 23 => 107 | 24 => 108 | 14 => 98 | 15 => 99 | 16 => 100 | 17 => 101 | 18 => 102 | 19 => 103 | 20 => 104 | 21 => 105 | 22 => 106 | 25 => 110 | 26 => 111 | 27 => 112 | 28 => 113 | 29 => 114 | 30 => 115 | 31 => 116 | n => n, fun | 26 => 3 | 28 => 120 | 24 => 68 | 0 => 0 | 3 => 3 | 37 => 106 | 48 => 133 | 50 => 47 | 4 => 4 | 40 => 158 | 39 => 157 | 45 => 80 | 5 => 5 | 9 => 9 | 51 => 167 | 55 => 171 | 57 => 173 | 58 => 174 | 33 => 88 | n => n, fun | n => n⟩
theorem PmK.sortedA : Go.Proofs.SlLaysZI.n6 Try.prog PmK.sortedA_ren where
  mixed := by kernel_rfl
  f6 := ⟨ "slices.Sorted[int]", by decide, Try.func63.trans (congrArg some (by kernel_rfl))⟩
  f8 := ⟨ "slices.Collect[int]", by decide, Try.func77.trans (congrArg some (by kernel_rfl))⟩
  f11 := ⟨ "slices.AppendSeq[[]int,int]", by decide, Try.func92.trans (congrArg some (by kernel_rfl))⟩
  t0 := Try.underlying0
  a0 := Try.isAgg0
  z0 := Try.sizeOf0
  v0 := Try.zeroValue0
  t24 := Try.underlying68
  a24 := Try.isAgg68
  z24 := Try.sizeOf68
  v24 := Try.zeroValue68
  t26 := Try.underlying3
  a26 := Try.isAgg3
  z26 := Try.sizeOf3
  v26 := Try.zeroValue3
  t28 := Try.underlying120
  a28 := Try.isAgg120
  z28 := Try.sizeOf120
  v28 := Try.zeroValue120
  i26 := by kernel_rfl
def PmK.sortA_ren : Go.Shelf.Ren := ⟨fun | 5 => 78 | 8 => 94 | 7 => 93 | 19 => 107 | 20 => 108 | 10 => 98 | 11 => 99 | 12 => 100 | 13 => 101 | 14 => 102 | 15 => 103 | 16 => 104 | 17 => 105 | 18 => 106 | 30 => 110 | 31 => 111 | 32 => 112 | 33 => 113 | 34 => 114 | 35 => 115 | 40 => 116 | n => n, fun | 23 => 68 | 25 => 3 | 3 => 3 | 32 => 106 | 22 => 68 | 0 => 0 | 44 => 133 | 46 => 47 | 4 => 4 | 36 => 158 | 35 => 157 | 41 => 80 | 5 => 5 | 9 => 9 | 53 => 167 | 57 => 171 | 63 => 173 | 64 => 174 | n => n, fun | n => n⟩
theorem PmK.sortA : Go.Proofs.SlLaysM.n5 Try.prog PmK.sortA_ren where
  mixed := by kernel_rfl
  f5 := ⟨ "slices.Sort[[]int,int]", by decide, Try.func78.trans (congrArg some (by kernel_rfl))⟩
  f7 := ⟨ "slices.pdqsortOrdered[int]", by decide, Try.func93.trans (congrArg some (by kernel_rfl))⟩
  f8 := Try.func94.trans (congrArg some (by kernel_rfl))
  f10 := ⟨ "slices.insertionSortOrdered[int]", by decide, Try.func98.trans (congrArg some (by kernel_rfl))⟩
  f11 := ⟨ "slices.heapSortOrdered[int]", by decide, Try.func99.trans (congrArg some (by kernel_rfl))⟩
  f12 := ⟨ "slices.breakPatternsOrdered[int]", by decide, Try.func100.trans (congrArg some (by kernel_rfl))⟩
  f13 := ⟨ "slices.choosePivotOrdered[int]", by decide, Try.func101.trans (congrArg some (by kernel_rfl))⟩
  f14 := ⟨ "slices.reverseRangeOrdered[int]", by decide, Try.func102.trans (congrArg some (by kernel_rfl))⟩
  f15 := ⟨ "slices.partialInsertionSortOrdered[int]", by decide, Try.func103.trans (congrArg some (by kernel_rfl))⟩
  f16 := ⟨ "cmp.Less[int]", by decide, Try.func104.trans (congrArg some (by kernel_rfl))⟩
  f17 := ⟨ "slices.partitionEqualOrdered[int]", by decide, Try.func105.trans (congrArg some (by kernel_rfl))⟩
  f18 := ⟨ "slices.partitionOrdered[int]", by decide, Try.func106.trans (congrArg some (by kernel_rfl))⟩
  f19 := Try.func107.trans (congrArg some (by kernel_rfl))
  f20 := Try.func108.trans (congrArg some (by kernel_rfl))
  f30 := ⟨ "slices.siftDownOrdered[int]", by decide, Try.func110.trans (congrArg some (by kernel_rfl))⟩
  f31 := Try.func111.trans (congrArg some (by kernel_rfl))
  f32 := Try.func112.trans (congrArg some (by kernel_rfl))
  f33 := ⟨ "slices.medianAdjacentOrdered[int]", by decide, Try.func113.trans (congrArg some (by kernel_rfl))⟩
  f34 := ⟨ "slices.medianOrdered[int]", by decide, Try.func114.trans (congrArg some (by kernel_rfl))⟩
  f35 := ⟨ "cmp.isNaN[int]", by decide, Try.func115.trans (congrArg some (by kernel_rfl))⟩
  f40 := ⟨ "slices.order2Ordered[int]", by decide, Try.func116.trans (congrArg some (by kernel_rfl))⟩
  t0 := Try.underlying0
  a0 := Try.isAgg0
  z0 := Try.sizeOf0
  v0 := Try.zeroValue0
  t3 := Try.underlying3
  a3 := Try.isAgg3
  z3 := Try.sizeOf3
  v3 := Try.zeroValue3
  t4 := Try.underlying4
  a4 := Try.isAgg4
  z4 := Try.sizeOf4
  v4 := Try.zeroValue4
  t5 := Try.underlying5
  a5 := Try.isAgg5
  z5 := Try.sizeOf5
  v5 := Try.zeroValue5
  t9 := Try.underlying9
  a9 := Try.isAgg9
  z9 := Try.sizeOf9
  v9 := Try.zeroValue9
  t22 := Try.underlying68
  a22 := Try.isAgg68
  z22 := Try.sizeOf68
  v22 := Try.zeroValue68
  t23 := Try.underlying68
  a23 := Try.isAgg68
  z23 := Try.sizeOf68
  v23 := Try.zeroValue68
  t25 := Try.underlying3
  a25 := Try.isAgg3
  z25 := Try.sizeOf3
  v25 := Try.zeroValue3
  t32 := Try.underlying106
  a32 := Try.isAgg106
  z32 := Try.sizeOf106
  v32 := Try.zeroValue106
  t35 := Try.underlying157
  a35 := Try.isAgg157
  z35 := Try.sizeOf157
  v35 := Try.zeroValue157
  t36 := Try.underlying158
  a36 := Try.isAgg158
  z36 := Try.sizeOf158
  v36 := Try.zeroValue158
  t41 := Try.underlying80
  a41 := Try.isAgg80
  z41 := Try.sizeOf80
  v41 := Try.zeroValue80
  t44 := Try.underlying133
  a44 := Try.isAgg133
  z44 := Try.sizeOf133
  v44 := Try.zeroValue133
  t46 := Try.underlying47
  a46 := Try.isAgg47
  z46 := Try.sizeOf47
  v46 := Try.zeroValue47
  t53 := Try.underlying167
  a53 := Try.isAgg167
  z53 := Try.sizeOf167
  v53 := Try.zeroValue167
  t57 := Try.underlying171
  a57 := Try.isAgg171
  z57 := Try.sizeOf171
  v57 := Try.zeroValue171
  t63 := Try.underlying173
  a63 := Try.isAgg173
  z63 := Try.sizeOf173
  v63 := Try.zeroValue173
  t64 := Try.underlying174
  a64 := Try.isAgg174
  z64 := Try.sizeOf174
  v64 := Try.zeroValue174

theorem pmSorts (m : Nat) : AnyZI.SortsIn Try.prog PmK.sortedA_ren Fence.wide m :=
  ⟨fun blk off cap ss W hH hblk hsz => callsIn_wide.2 (AnyM.slices_Sort_int PmK.sortA blk off cap ss W hH hblk hsz), fun p cap W => callsIn_wide.2 (AnyM.slices_Sort_int_none PmK.sortA p cap W)⟩
theorem keys_call (mb : Option Nat) (W : World) : Calls Try.prog 64 #[.map mb] W fun e w' => e = .returned (.func (.func 79) #[] #[.pointer (some ⟨W.heap.size, 0, none⟩)]) ∧ w' = W.alloc (.cells #[.map mb] 67) :=
  (callsIn_wide (n := 5)).1 (AnyZI.keys_in PmK.keysA Fence.wide 5 trivial rfl mb W)
set_option maxHeartbeats 1000000 in
theorem sorted_call {H : Type} (b nn : Nat) (D0 : DataW H) (R : Value → Option (DataW H × List MemPlace)) (w : World) (hown : w.ownsMap Try.prog 3 R b nn D0) (hmax : Maps.size D0 ≤ maxLen) (hbytes : Maps.size D0 * 8 ≤ 140737488355328) :
    Calls Try.prog 63 #[.func (.func 79) #[] #[.pointer (some ⟨w.heap.size, 0, none⟩)]] (w.alloc (.cells #[.map (some b)] 67)) fun e w' => ∃ (v : Value) (ss : List Int), e = .returned v ∧ ss.Perm (intKeys D0) ∧
      w'.ownsRow (w.alloc (.cells #[.map (some b)] 67)).heap.size 3 1 v ss.length ((ss.mergeSort (fun x y => decide (x ≤ y))).map encZ) ∧ (v = .slice none 0 0 ↔ ss = []) ∧ Below (w.alloc (.cells #[.map (some b)] 67)).heap.size (w.alloc (.cells #[.map (some b)] 67)) w' := by
  refine (callsIn_wide (n := 5)).1 ?_
  have hbl := hown.lt
  have hseq : SeqGives Fence.wide 2 Try.prog 79 #[.pointer (some ⟨w.heap.size, 0, none⟩)] encZ (fun ss => ss.Perm (intKeys D0)) (Maps.size D0) (w.alloc (.cells #[.map (some b)] 67)) :=
    AnyZI.keys_gives (ρ := PmK.keysA_ren) { PmK.keysA with } Fence.wide _ trivial rfl (by omega) w.heap.size b nn D0 _ (by simp) (by simp) (by
      obtain ⟨es, clock, hb, Ft, hs, hD⟩ := hown
      exact ⟨es, clock, (Below.heap_alloc _ _ b hbl).trans hb, Ft, hs, hD⟩)
  exact AnyZI.sorted_in PmK.sortedA Fence.wide 5 trivial trivial trivial trivial rfl (by omega) (pmSorts _) (enters_of Try.func78 (by kernel_rfl) rfl) 79 #[.pointer (some ⟨w.heap.size, 0, none⟩)] trivial (enters_of Try.func79 (by kernel_rfl) rfl) _ _ hmax hbytes _ hseq

/-! ### The keys as a list of words -/
theorem keys_facts {P : Program} {k : TypeId} {H : Type} {R : Value → Option (DataW H × List MemPlace)} {w : World} {b n : Nat} {D0 : DataW H} (hown : w.ownsMap P k R b n D0) (hk : P.underlying k = some (.int .i64)) :
    (intKeys D0).Nodup ∧ ∀ x, x ∈ intKeys D0 ↔ Maps.has D0 (.int .i64 x) = true := by
  obtain ⟨es, hD, hpw, _⟩ := hown.entries (Maps.int_keyed hk)
  obtain ⟨es', hD', hko⟩ := hown.keysOf
  obtain rfl : es = es' := by rw [hD] at hD'; simpa using hD'
  subst hD
  have kx : ∀ p ∈ es, ∃ x, p.1 = Lit.int .i64 x := fun p hp => by
    obtain ⟨v, hv⟩ := hko p hp
    obtain ⟨x, _, hx, _⟩ := Maps.keyOf_i64 hk hv
    exact ⟨x, hx⟩
  constructor
  · show (es.map fun p => Go.intOf p.1).Nodup
    rw [List.Nodup, List.pairwise_map]
    refine hpw.imp_of_mem fun {p q} hp hq hne e => hne ?_
    obtain ⟨x, hx⟩ := kx p hp
    obtain ⟨y, hy⟩ := kx q hq
    rw [hx, hy] at e ⊢
    have e2 : x = y := e
    rw [e2]
  · intro x
    rw [Maps.has_eq, List.any_eq_true]
    show x ∈ es.map (fun p => Go.intOf p.1) ↔ _
    rw [List.mem_map]
    constructor
    · rintro ⟨p, hp, rfl⟩
      obtain ⟨y, hy⟩ := kx p hp
      refine ⟨p, hp, ?_⟩
      rw [hy]
      exact key_self y
    · rintro ⟨p, hp, hs⟩
      obtain ⟨y, hy⟩ := kx p hp
      rw [hy, key_is, decide_eq_true_eq] at hs
      exact ⟨p, hp, by rw [hy, ← hs]; rfl⟩

theorem own_base {w : World} {base base' : Nat} {e : TypeId} {size n : Nat} {v : Value} {xs : List Value} (h : w.ownsRow base e size v n xs) (hb : base' ≤ base) : w.ownsRow base' e size v n xs := by
  refine ⟨h.1, ?_⟩
  rcases h.2 with hz | ⟨g, cap, cur, hv, hg, rest⟩
  · exact .inl hz
  · exact .inr ⟨g, cap, cur, hv, Nat.le_trans hb hg, rest⟩
theorem pend_list {D : DevS} {w : World} {b n : Nat} (hok : DevOk D) {D0 : DataW Unit} (hown : w.ownsMap Try.prog 3 cellE.R b n D0) (hm : MIs cellE D0 D.buf) {ss : List Int} (hS : ss.Perm (intKeys D0)) :
    ∃ L : List Nat, IsPend D L ∧ L.length = ss.length ∧ (ss.mergeSort (fun x y => decide (x ≤ y))).map encZ = L.map iW := by
  obtain ⟨hnd, hmem⟩ := keys_facts hown undInt
  have hwf := intKeys_wf hown undInt
  have hM : ∀ z, z ∈ ss.mergeSort (fun x y => decide (x ≤ y)) ↔ z ∈ intKeys D0 := fun z => by rw [List.mem_mergeSort, hS.mem_iff]
  have hbuf : ∀ z, z ∈ intKeys D0 → D.buf z ≠ none := fun z hz e => by
    have := (hm z (hwf z hz)).1
    rw [(hmem z).1 hz, e] at this
    cases this
  have hpos : ∀ z, z ∈ ss.mergeSort (fun x y => decide (x ≤ y)) → 0 ≤ z := fun z hz => (hok.sup z (hbuf z ((hM z).1 hz))).1
  refine ⟨(ss.mergeSort (fun x y => decide (x ≤ y))).map Int.toNat, ⟨?_, ?_⟩, ?_, ?_⟩
  · have tr : ∀ a b c : Int, decide (a ≤ b) = true → decide (b ≤ c) = true → decide (a ≤ c) = true := fun a b c h1 h2 => by simp only [decide_eq_true_eq] at *; omega
    have to : ∀ a b : Int, (decide (a ≤ b) || decide (b ≤ a)) = true := fun a b => by simp only [Bool.or_eq_true, decide_eq_true_eq]; omega
    have h1 := List.pairwise_mergeSort tr to ss
    have h2 : (ss.mergeSort (fun x y => decide (x ≤ y))).Nodup := (((List.mergeSort_perm ss _).trans hS).nodup_iff).2 hnd
    rw [List.pairwise_map]
    refine (h1.and h2).imp_of_mem fun {x y} hx hy h => ?_
    have h3 := of_decide_eq_true h.1
    have h4 := h.2
    have h5 := hpos x hx
    have h6 := hpos y hy
    omega
  · intro x
    rw [List.mem_map]
    constructor
    · rintro ⟨z, hz, rfl⟩
      have := hpos z hz
      rw [Int.toNat_of_nonneg this]
      exact hbuf z ((hM z).1 hz)
    · intro hx
      have hs := hok.sup _ hx
      have hn := hok.hi
      refine ⟨(x : Int), (hM _).2 ((hmem _).2 ?_), by simp⟩
      rw [(hm (x : Int) (wfZ (by omega) (by omega))).1]
      cases hb : D.buf (x : Int) with
      | none => exact absurd hb hx
      | some _ => rfl
  · rw [List.length_map, List.length_mergeSort]
  · rw [List.map_map]
    refine List.map_congr_left fun z hz => ?_
    show encZ z = iW z.toNat
    unfold iW
    rw [Int.toNat_of_nonneg (hpos z hz)]

theorem pending_nil (w : World) : Calls Try.prog 44 #[.pointer none] w fun e w' => e = .returned (.slice none 0 0) ∧ w = w' := by
  go_enter Try.func44, Try.ntmps44
  go_wp2_with fail
  go_ret
  exact ⟨rfl, rfl⟩
theorem pending_any (a : DevA) (D : DevS) (w : World) (h : DevIs w a D) (hc : D.cnt ≤ 17592186044416) :
    Calls Try.prog 44 #[.pointer (some ⟨a.bd, 0, none⟩)] w fun e w' => ∃ v L, e = .returned v ∧ IsPend D L ∧ w'.ownsRow w.heap.size 3 1 v L.length (L.map iW) ∧ (v = .slice none 0 0 ↔ L = []) ∧ Gr [] w w' := by
  have c1 := h.c1
  obtain ⟨D0, hown, hm⟩ := h.buf
  have hsz : Maps.size D0 ≤ 17592186044416 := Nat.le_trans hown.size_le hc
  have HS := Lib.hid (sorted_call a.bb D.cnt D0 cellE.R w hown (by unfold maxLen; omega) (by omega))
  have HP := Lib.hid (fun ss (hS : List.Perm ss (intKeys D0)) => pend_list h.ok hown hm hS)
  clear h hown hm hsz
  go_enter Try.func44, Try.ntmps44
  go_wp2_with fail
  refine (keys_call _ _).mono ?_
  rintro e w' ⟨rfl, rfl⟩
  go_wp2_with fail
  refine HS.out.mono ?_
  rintro e w' ⟨v, ss, rfl, hS, hrow, hnil, hb⟩
  have HR := Lib.hid (show ∃ L, IsPend D L ∧ w'.ownsRow w.heap.size 3 1 v L.length (L.map iW) ∧ (v = .slice none 0 0 ↔ L = []) ∧ Gr [] w w' by
    obtain ⟨L, h1, h2, h3⟩ := HP.out ss hS
    refine ⟨L, h1, ?_, ?_, ((Gr.refl [] w).alloc _).trans (.ofBelow hb)⟩
    · rw [h2, ← h3]
      exact own_base hrow (by simp)
    · rw [hnil, ← List.length_eq_zero_iff, ← h2, List.length_eq_zero_iff])
  clear hS hrow hnil hb
  go_wp2_with fail
  go_ret
  exact ⟨v, _, rfl, HR.out.choose_spec.1, HR.out.choose_spec.2.1, HR.out.choose_spec.2.2.1, HR.out.choose_spec.2.2.2⟩

theorem boot_any (a : DevA) (D : DevS) (kv : Value) (kl : Nat) (kp : Nat → Bool) (w : World) (h : DevIs w a D) (hk : KeepIs w kv kl kp) (hw : ∀ l, 0 ≤ D.wear l ∧ D.wear l < 4611686018427387904) (hc : D.cnt ≤ 17592186044416) :
    Calls Try.prog 25 #[.pointer (some ⟨a.bd, 0, none⟩), kv] w fun e w' => e = .returned (.tuple #[]) ∧ (∃ L, IsPend D L ∧ DevIs w' a (bootD D L kp)) ∧ Gr a.all w w' :=
  boot_of a D kv kl kp w h hk hw (pending_any a D w h hc)
theorem boot_nil (kv : Value) (w : World) : Calls Try.prog 25 #[.pointer none, kv] w fun e w' => e = .returned (.tuple #[]) ∧ w = w' := by
  go_enter Try.func25, Try.ntmps25
  go_wp2_with fail
  go_returns
  exact ⟨rfl, rfl⟩

end Go.Proofs.Ytgifjnniohcacaa
