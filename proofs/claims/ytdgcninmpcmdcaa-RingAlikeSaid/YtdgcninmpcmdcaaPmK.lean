/-
  pm: Pending.
-/
import Derived.Test.YtdgcninmpcmdcaaMgC
import Derived.Shelf.SlIterI.Nil
import Derived.Shelf.SortM.Plain
import Derived.Shelf.SortM.SortNone
import Derived.Ground.GgzProg
import Derived.Ground.SlgmProg
namespace Go.Proofs.Ytdgcninmpcmdcaa
open Go.RowKit Go.Sort Go.Shelf

/-! What the kit's commands lay, written out (marks: every seat). -/
/-! ### The keys as a list of words -/
theorem keys_facts {P : Program} {k : TypeId} {H : Type} {R : Value → Option (DataW H × List MemPlace)} {w : World} {b n : Nat} {D0 : DataW H} (hown : w.ownsMap P k R b n D0) (hk : P.underlying k = some (.int .i64)) :
    (intKeys D0).Nodup ∧ ∀ x, x ∈ intKeys D0 ↔ Maps.has D0 (.int .i64 x) = true := by
  obtain ⟨es, hD, hpw, _⟩ := hown.entries (Maps.int_keyed hk)
  obtain ⟨es', hD', hko⟩ := hown.keysOf
  obtain rfl : es = es' := by rw [hD] at hD'; simpa using hD'
  subst hD
  have kx : ∀ p ∈ es, ∃ x, p.1 = Lit.int .i64 x := fun p hp => by
    obtain ⟨v, hv⟩ := hko p hp
    obtain ⟨x, _, hx, _⟩ := Maps.keyOf_i64 hk hv
    exact ⟨x, hx⟩
  constructor
  · show (es.map fun p => Go.intOf p.1).Nodup
    rw [List.Nodup, List.pairwise_map]
    refine hpw.imp_of_mem fun {p q} hp hq hne e => hne ?_
    obtain ⟨x, hx⟩ := kx p hp
    obtain ⟨y, hy⟩ := kx q hq
    rw [hx, hy] at e ⊢
    have e2 : x = y := e
    rw [e2]
  · intro x
    rw [Maps.has_eq, List.any_eq_true]
    show x ∈ es.map (fun p => Go.intOf p.1) ↔ _
    rw [List.mem_map]
    constructor
    · rintro ⟨p, hp, rfl⟩
      obtain ⟨y, hy⟩ := kx p hp
      refine ⟨p, hp, ?_⟩
      rw [hy]
      exact key_self y
    · rintro ⟨p, hp, hs⟩
      obtain ⟨y, hy⟩ := kx p hp
      rw [hy, key_is, decide_eq_true_eq] at hs
      exact ⟨p, hp, by rw [hy, ← hs]; rfl⟩

theorem own_base {w : World} {base base' : Nat} {e : TypeId} {size n : Nat} {v : Value} {xs : List Value} (h : w.ownsRow base e size v n xs) (hb : base' ≤ base) : w.ownsRow base' e size v n xs := by
  refine ⟨h.1, ?_⟩
  rcases h.2 with hz | ⟨g, cap, cur, hv, hg, rest⟩
  · exact .inl hz
  · exact .inr ⟨g, cap, cur, hv, Nat.le_trans hb hg, rest⟩
theorem pend_list {D : DevS} {w : World} {b n : Nat} (hok : DevOk D) {D0 : DataW Unit} (hown : w.ownsMap Try.prog 3 cellE.R b n D0) (hm : MIs cellE D0 D.buf) {ss : List Int} (hS : ss.Perm (intKeys D0)) :
    ∃ L : List Nat, IsPend D L ∧ L.length = ss.length ∧ (ss.mergeSort (fun x y => decide (x ≤ y))).map encZ = L.map iW := by
  obtain ⟨hnd, hmem⟩ := keys_facts hown undInt
  have hwf := intKeys_wf hown undInt
  have hM : ∀ z, z ∈ ss.mergeSort (fun x y => decide (x ≤ y)) ↔ z ∈ intKeys D0 := fun z => by rw [List.mem_mergeSort, hS.mem_iff]
  have hbuf : ∀ z, z ∈ intKeys D0 → D.buf z ≠ none := fun z hz e => by
    have := (hm z (hwf z hz)).1
    rw [(hmem z).1 hz, e] at this
    cases this
  have hpos : ∀ z, z ∈ ss.mergeSort (fun x y => decide (x ≤ y)) → 0 ≤ z := fun z hz => (hok.sup z (hbuf z ((hM z).1 hz))).1
  refine ⟨(ss.mergeSort (fun x y => decide (x ≤ y))).map Int.toNat, ⟨?_, ?_⟩, ?_, ?_⟩
  · have tr : ∀ a b c : Int, decide (a ≤ b) = true → decide (b ≤ c) = true → decide (a ≤ c) = true := fun a b c h1 h2 => by simp only [decide_eq_true_eq] at *; omega
    have to : ∀ a b : Int, (decide (a ≤ b) || decide (b ≤ a)) = true := fun a b => by simp only [Bool.or_eq_true, decide_eq_true_eq]; omega
    have h1 := List.pairwise_mergeSort tr to ss
    have h2 : (ss.mergeSort (fun x y => decide (x ≤ y))).Nodup := (((List.mergeSort_perm ss _).trans hS).nodup_iff).2 hnd
    rw [List.pairwise_map]
    refine (h1.and h2).imp_of_mem fun {x y} hx hy h => ?_
    have h3 := of_decide_eq_true h.1
    have h4 := h.2
    have h5 := hpos x hx
    have h6 := hpos y hy
    omega
  · intro x
    rw [List.mem_map]
    constructor
    · rintro ⟨z, hz, rfl⟩
      have := hpos z hz
      rw [Int.toNat_of_nonneg this]
      exact hbuf z ((hM z).1 hz)
    · intro hx
      have hs := hok.sup _ hx
      have hn := hok.hi
      refine ⟨(x : Int), (hM _).2 ((hmem _).2 ?_), by simp⟩
      rw [(hm (x : Int) (wfZ (by omega) (by omega))).1]
      cases hb : D.buf (x : Int) with
      | none => exact absurd hb hx
      | some _ => rfl
  · rw [List.length_map, List.length_mergeSort]
  · rw [List.map_map]
    refine List.map_congr_left fun z hz => ?_
    show encZ z = iW z.toNat
    unfold iW
    rw [Int.toNat_of_nonneg (hpos z hz)]

end Go.Proofs.Ytdgcninmpcmdcaa
