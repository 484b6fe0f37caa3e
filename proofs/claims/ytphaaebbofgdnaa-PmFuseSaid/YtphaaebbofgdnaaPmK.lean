/-
  pm: Pending.
-/
import Derived.Test.YtphaaebbofgdnaaPmL
import Derived.Shelf.SlIterI.Nil
import Derived.Shelf.SortM.Plain
import Derived.Shelf.SortM.SortNone
import Derived.Ground.GgzProg
import Derived.Ground.SlgmProg
namespace Go.Proofs.Ytphaaebbofgdnaa
open Go.RowKit Go.Sort Go.Shelf

shelf_lay_g SlLaysZI.n7 Ggz 7 at Try 57 as PmK.keysA
shelf_lay_g SlLaysZI.n6 Ggz 6 at Try 56 as PmK.sortedA
shelf_lay_g SlLaysM.n5 Slgm 5 at Try 70 as PmK.sortA

theorem pmSorts (m : Nat) : AnyZI.SortsIn Try.prog PmK.sortedA_ren Fence.wide m :=
  ⟨fun blk off cap ss W hH hblk hsz => callsIn_wide.2 (AnyM.slices_Sort_int PmK.sortA blk off cap ss W hH hblk hsz), fun p cap W => callsIn_wide.2 (AnyM.slices_Sort_int_none PmK.sortA p cap W)⟩
theorem keys_call (mb : Option Nat) (W : World) : Calls Try.prog 57 #[.map mb] W fun e w' => e = .returned (.func (.func 71) #[] #[.pointer (some ⟨W.heap.size, 0, none⟩)]) ∧ w' = W.alloc (.cells #[.map mb] 86) :=
  (callsIn_wide (n := 5)).1 (AnyZI.keys_in PmK.keysA Fence.wide 5 trivial rfl mb W)
set_option maxHeartbeats 1000000 in
theorem sorted_call {H : Type} (b nn : Nat) (D0 : DataW H) (R : Value → Option (DataW H × List MemPlace)) (w : World) (hown : w.ownsMap Try.prog 3 R b nn D0) (hmax : Maps.size D0 ≤ maxLen) (hbytes : Maps.size D0 * 8 ≤ 140737488355328) :
    Calls Try.prog 56 #[.func (.func 71) #[] #[.pointer (some ⟨w.heap.size, 0, none⟩)]] (w.alloc (.cells #[.map (some b)] 86)) fun e w' => ∃ (v : Value) (ss : List Int), e = .returned v ∧ ss.Perm (intKeys D0) ∧
      w'.ownsRow (w.alloc (.cells #[.map (some b)] 86)).heap.size 3 1 v ss.length ((ss.mergeSort (fun x y => decide (x ≤ y))).map encZ) ∧ (v = .slice none 0 0 ↔ ss = []) ∧ Below (w.alloc (.cells #[.map (some b)] 86)).heap.size (w.alloc (.cells #[.map (some b)] 86)) w' := by
  refine (callsIn_wide (n := 5)).1 ?_
  have hbl := hown.lt
  have hseq : SeqGives Fence.wide 2 Try.prog 71 #[.pointer (some ⟨w.heap.size, 0, none⟩)] encZ (fun ss => ss.Perm (intKeys D0)) (Maps.size D0) (w.alloc (.cells #[.map (some b)] 86)) :=
    AnyZI.keys_gives (ρ := PmK.keysA_ren) { PmK.keysA with } Fence.wide _ trivial rfl (by omega) w.heap.size b nn D0 _ (by simp) (by simp) (by
      obtain ⟨es, clock, hb, Ft, hs, hD⟩ := hown
      exact ⟨es, clock, (Below.heap_alloc _ _ b hbl).trans hb, Ft, hs, hD⟩)
  exact AnyZI.sorted_in PmK.sortedA Fence.wide 5 trivial trivial trivial trivial rfl (by omega) (pmSorts _) (enters_of Try.func70 (by kernel_rfl) rfl) 71 #[.pointer (some ⟨w.heap.size, 0, none⟩)] trivial (enters_of Try.func71 (by kernel_rfl) rfl) _ _ hmax hbytes _ hseq

/-! ### The keys as a list of words -/
theorem keys_facts {P : Program} {k : TypeId} {H : Type} {R : Value → Option (DataW H × List MemPlace)} {w : World} {b n : Nat} {D0 : DataW H} (hown : w.ownsMap P k R b n D0) (hk : P.underlying k = some (.int .i64)) :
    (intKeys D0).Nodup ∧ ∀ x, x ∈ intKeys D0 ↔ Maps.has D0 (.int .i64 x) = true := by
  obtain ⟨es, hD, hpw, _⟩ := hown.entries (Maps.int_keyed hk)
  obtain ⟨es', hD', hko⟩ := hown.keysOf
  obtain rfl : es = es' := by rw [hD] at hD'; simpa using hD'
  subst hD
  have kx : ∀ p ∈ es, ∃ x, p.1 = Lit.int .i64 x := fun p hp => by
    obtain ⟨v, hv⟩ := hko p hp
    obtain ⟨x, _, hx, _⟩ := Maps.keyOf_i64 hk hv
    exact ⟨x, hx⟩
  constructor
  · show (es.map fun p => Go.intOf p.1).Nodup
    rw [List.Nodup, List.pairwise_map]
    refine hpw.imp_of_mem fun {p q} hp hq hne e => hne ?_
    obtain ⟨x, hx⟩ := kx p hp
    obtain ⟨y, hy⟩ := kx q hq
    rw [hx, hy] at e ⊢
    have e2 : x = y := e
    rw [e2]
  · intro x
    rw [Maps.has_eq, List.any_eq_true]
    show x ∈ es.map (fun p => Go.intOf p.1) ↔ _
    rw [List.mem_map]
    constructor
    · rintro ⟨p, hp, rfl⟩
      obtain ⟨y, hy⟩ := kx p hp
      refine ⟨p, hp, ?_⟩
      rw [hy]
      exact key_self y
    · rintro ⟨p, hp, hs⟩
      obtain ⟨y, hy⟩ := kx p hp
      rw [hy, key_is, decide_eq_true_eq] at hs
      exact ⟨p, hp, by rw [hy, ← hs]; rfl⟩

theorem own_base {w : World} {base base' : Nat} {e : TypeId} {size n : Nat} {v : Value} {xs : List Value} (h : w.ownsRow base e size v n xs) (hb : base' ≤ base) : w.ownsRow base' e size v n xs := by
  refine ⟨h.1, ?_⟩
  rcases h.2 with hz | ⟨g, cap, cur, hv, hg, rest⟩
  · exact .inl hz
  · exact .inr ⟨g, cap, cur, hv, Nat.le_trans hb hg, rest⟩
theorem pend_list {D : DevS} {w : World} {b n : Nat} (hok : DevOk D) {D0 : DataW Unit} (hown : w.ownsMap Try.prog 3 cellE.R b n D0) (hm : MIs cellE D0 D.buf) {ss : List Int} (hS : ss.Perm (intKeys D0)) :
    ∃ L : List Nat, IsPend D L ∧ L.length = ss.length ∧ (ss.mergeSort (fun x y => decide (x ≤ y))).map encZ = L.map iW := by
  obtain ⟨hnd, hmem⟩ := keys_facts hown undInt
  have hwf := intKeys_wf hown undInt
  have hM : ∀ z, z ∈ ss.mergeSort (fun x y => decide (x ≤ y)) ↔ z ∈ intKeys D0 := fun z => by rw [List.mem_mergeSort, hS.mem_iff]
  have hbuf : ∀ z, z ∈ intKeys D0 → D.buf z ≠ none := fun z hz e => by
    have := (hm z (hwf z hz)).1
    rw [(hmem z).1 hz, e] at this
    cases this
  have hpos : ∀ z, z ∈ ss.mergeSort (fun x y => decide (x ≤ y)) → 0 ≤ z := fun z hz => (hok.sup z (hbuf z ((hM z).1 hz))).1
  refine ⟨(ss.mergeSort (fun x y => decide (x ≤ y))).map Int.toNat, ⟨?_, ?_⟩, ?_, ?_⟩
  · have tr : ∀ a b c : Int, decide (a ≤ b) = true → decide (b ≤ c) = true → decide (a ≤ c) = true := fun a b c h1 h2 => by simp only [decide_eq_true_eq] at *; omega
    have to : ∀ a b : Int, (decide (a ≤ b) || decide (b ≤ a)) = true := fun a b => by simp only [Bool.or_eq_true, decide_eq_true_eq]; omega
    have h1 := List.pairwise_mergeSort tr to ss
    have h2 : (ss.mergeSort (fun x y => decide (x ≤ y))).Nodup := (((List.mergeSort_perm ss _).trans hS).nodup_iff).2 hnd
    rw [List.pairwise_map]
    refine (h1.and h2).imp_of_mem fun {x y} hx hy h => ?_
    have h3 := of_decide_eq_true h.1
    have h4 := h.2
    have h5 := hpos x hx
    have h6 := hpos y hy
    omega
  · intro x
    rw [List.mem_map]
    constructor
    · rintro ⟨z, hz, rfl⟩
      have := hpos z hz
      rw [Int.toNat_of_nonneg this]
      exact hbuf z ((hM z).1 hz)
    · intro hx
      have hs := hok.sup _ hx
      have hn := hok.hi
      refine ⟨(x : Int), (hM _).2 ((hmem _).2 ?_), by simp⟩
      rw [(hm (x : Int) (wfZ (by omega) (by omega))).1]
      cases hb : D.buf (x : Int) with
      | none => exact absurd hb hx
      | some _ => rfl
  · rw [List.length_map, List.length_mergeSort]
  · rw [List.map_map]
    refine List.map_congr_left fun z hz => ?_
    show encZ z = iW z.toNat
    unfold iW
    rw [Int.toNat_of_nonneg (hpos z hz)]

theorem pending_nil (w : World) : Calls Try.prog 20 #[.pointer none] w fun e w' => e = .returned (.slice none 0 0) ∧ w = w' := by
  go_enter Try.func20, Try.ntmps20
  go_wp2_with fail
  go_ret
  exact ⟨rfl, rfl⟩
theorem pending_any (a : DevA) (D : DevS) (w : World) (h : DevIs w a D) (hc : D.cnt ≤ 17592186044416) :
    Calls Try.prog 20 #[.pointer (some ⟨a.bd, 0, none⟩)] w fun e w' => ∃ v L, e = .returned v ∧ IsPend D L ∧ w'.ownsRow w.heap.size 3 1 v L.length (L.map iW) ∧ (v = .slice none 0 0 ↔ L = []) ∧ Gr [] w w' := by
  have c1 := h.c1
  obtain ⟨D0, hown, hm⟩ := h.buf
  have hsz : Maps.size D0 ≤ 17592186044416 := Nat.le_trans hown.size_le hc
  have HS := Lib.hid (sorted_call a.bb D.cnt D0 cellE.R w hown (by unfold maxLen; omega) (by omega))
  have HP := Lib.hid (fun ss (hS : List.Perm ss (intKeys D0)) => pend_list h.ok hown hm hS)
  clear h hown hm hsz
  go_enter Try.func20, Try.ntmps20
  go_wp2_with fail
  refine (keys_call _ _).mono ?_
  rintro e w' ⟨rfl, rfl⟩
  go_wp2_with fail
  refine HS.out.mono ?_
  rintro e w' ⟨v, ss, rfl, hS, hrow, hnil, hb⟩
  have HR := Lib.hid (show ∃ L, IsPend D L ∧ w'.ownsRow w.heap.size 3 1 v L.length (L.map iW) ∧ (v = .slice none 0 0 ↔ L = []) ∧ Gr [] w w' by
    obtain ⟨L, h1, h2, h3⟩ := HP.out ss hS
    refine ⟨L, h1, ?_, ?_, ((Gr.refl [] w).alloc _).trans (.ofBelow hb)⟩
    · rw [h2, ← h3]
      exact own_base hrow (by simp)
    · rw [hnil, ← List.length_eq_zero_iff, ← h2, List.length_eq_zero_iff])
  clear hS hrow hnil hb
  go_wp2_with fail
  go_ret
  exact ⟨v, _, rfl, HR.out.choose_spec.1, HR.out.choose_spec.2.1, HR.out.choose_spec.2.2.1, HR.out.choose_spec.2.2.2⟩

theorem boot_any (a : DevA) (D : DevS) (kv : Value) (kl : Nat) (kp : Nat → Bool) (w : World) (h : DevIs w a D) (hk : KeepIs w kv kl kp) (hw : ∀ l, 0 ≤ D.wear l ∧ D.wear l < 4611686018427387904) (hc : D.cnt ≤ 17592186044416) :
    Calls Try.prog 21 #[.pointer (some ⟨a.bd, 0, none⟩), kv] w fun e w' => e = .returned (.tuple #[]) ∧ (∃ L, IsPend D L ∧ DevIs w' a (bootD D L kp)) ∧ Gr a.all w w' :=
  boot_of a D kv kl kp w h hk hw (pending_any a D w h hc)
theorem boot_nil (kv : Value) (w : World) : Calls Try.prog 21 #[.pointer none, kv] w fun e w' => e = .returned (.tuple #[]) ∧ w = w' := by
  go_enter Try.func21, Try.ntmps21
  go_wp2_with fail
  go_returns
  exact ⟨rfl, rfl⟩

end Go.Proofs.Ytphaaebbofgdnaa
