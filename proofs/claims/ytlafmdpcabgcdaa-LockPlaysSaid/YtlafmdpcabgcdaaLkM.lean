/-
  Layer 24, without memory: the document's two lists against who has what and who wants what.
-/
import Derived.Test.YtlafmdpcabgcdaaLkI
import Derived.Test.YtlafmdpcabgcdaaLkH
namespace Go.Proofs.Ytlafmdpcabgcdaa

/-- The document's lists say the same. -/
structure LkRel (n : Nat) (S : LkS) (hs ws : List (Int × Int)) : Prop where
  ok : LkOk n S
  cl : ∀ e ∈ hs, 0 ≤ e.1
  has : ∀ (x : Int) (c : Nat), S.H x = some c ↔ ((c : Int), x) ∈ hs
  wants : ∀ c : Nat, c < n → S.W c = ofP ws c
theorem ownP_hits {l : List (Int × Int)} {x : Int} (h : ∃ c, (c, x) ∈ l) : (ownP l x, x) ∈ l := by
  induction l with
  | nil => obtain ⟨c, h⟩ := h; cases h
  | cons e r ih =>
    by_cases q : e.2 = x
    · rw [ownP, if_pos q]
      have : (e.1, x) = e := by rw [← q]
      rw [this]; simp
    · rw [ownP, if_neg q]
      obtain ⟨c, h⟩ := h
      rcases List.mem_cons.1 h with h | h
      · exact absurd (by rw [← h]) q
      · exact List.mem_cons_of_mem _ (ih ⟨c, h⟩)
theorem LkRel.start (n : Nat) : LkRel n noneS [] [] :=
  ⟨noneS_ok n, fun e he => (by cases he), fun x c => ⟨fun h => (by cases h), fun h => (by cases h)⟩, fun c _ => rfl⟩
theorem LkRel.owner {n : Nat} {S : LkS} {hs ws : List (Int × Int)} (h : LkRel n S hs ws) (x : Int) : ownP hs x = match S.H x with | none => -1 | some d => (d : Int) := by
  cases q : S.H x with
  | none =>
    refine ownP_none fun j d hd e => ?_
    have hm := List.mem_of_getElem? hd
    have h0 := h.cl d hm
    have : S.H x = some d.1.toNat := (h.has x d.1.toNat).2 (by rw [Int.toNat_of_nonneg h0, ← e]; exact hm)
    rw [q] at this; cases this
  | some d =>
    have hm := (h.has x d).1 q
    have hh := ownP_hits ⟨_, hm⟩
    have h0 := h.cl _ hh
    have := (h.has x (ownP hs x).toNat).2 (by rw [Int.toNat_of_nonneg h0]; exact hh)
    rw [q] at this
    injection this with this
    simp only
    omega
/-- What a client has. -/
theorem LkRel.had {n : Nat} {S : LkS} {hs ws : List (Int × Int)} (h : LkRel n S hs ws) {c : Nat} {m : List Int} (hr : Rise m) (hm : ∀ z, z ∈ m ↔ S.H z = some c) : m = ofP hs c :=
  ofP_uniq hr fun z => (hm z).trans (h.has z c)
theorem LkRel.waits {n : Nat} {S : LkS} {hs ws : List (Int × Int)} (h : LkRel n S hs ws) {c : Nat} (hc : c < n) : waitZ S c = match ofP ws c with | [] => -1 | x :: _ => ownP hs x := by
  rw [← h.wants c hc]
  unfold waitZ waitL
  cases S.W c with
  | nil => rfl
  | cons x r =>
    simp only
    rw [h.owner x]
    cases S.H x <;> rfl
def withoutP (l : List (Int × Int)) (c x : Int) (all : Bool) : List (Int × Int) := l.filter fun e => decide (e.1 ≠ c) || (!all && decide (e.2 ≠ x))
theorem withoutP_mem (l : List (Int × Int)) (c x : Int) (all : Bool) (e : Int × Int) : e ∈ withoutP l c x all ↔ e ∈ l ∧ (e.1 ≠ c ∨ (all = false ∧ e.2 ≠ x)) := by
  unfold withoutP
  rw [List.mem_filter]
  cases all <;> simp
theorem withoutP_len (l : List (Int × Int)) (c x : Int) (all : Bool) : (withoutP l c x all).length ≤ l.length := List.length_filter_le _ _
theorem withoutP_snoc (l : List (Int × Int)) (e : Int × Int) (c x : Int) (all : Bool) : withoutP (l ++ [e]) c x all = withoutP l c x all ++ (if (decide (e.1 ≠ c) || (!all && decide (e.2 ≠ x))) = true then [e] else []) := by
  unfold withoutP
  rw [List.filter_append]
  congr 1
  simp only [List.filter_cons, List.filter_nil]
theorem LkRel.take {n : Nat} {S : LkS} {hs ws : List (Int × Int)} (h : LkRel n S hs ws) {c : Nat} (hc : c < n) {x : Int} {r : List Int} (hS : S.W c = x :: r) (hx : S.H x = none) :
    LkRel n (stepL S c) (hs ++ [((c : Int), x)]) (withoutP ws c x false) := by
  have hok := h.ok.step hc
  have hst : stepL S c = ⟨setH S.H x c, setW S.W c r⟩ := by unfold stepL; rw [hS]; simp [hx]
  have hrc := h.ok.rise c
  rw [hS] at hrc
  refine ⟨hok, fun e he => ?_, fun y d => ?_, fun d hd => ?_⟩
  · rcases List.mem_append.1 he with q | q
    · exact h.cl e q
    · simp at q; subst q; simp
  · rw [hst]
    simp only [setH]
    rw [List.mem_append, List.mem_singleton]
    by_cases e : y = x
    · subst e
      rw [if_pos rfl]
      constructor
      · intro q; injection q with q; subst q; exact .inr rfl
      · rintro (q | q)
        · have := (h.has y d).2 q; rw [hx] at this; cases this
        · injection q with q _; congr 1; omega
    · rw [if_neg e, h.has]
      constructor
      · exact .inl
      · rintro (q | q)
        · exact q
        · injection q with _ q; exact absurd q e
  · rw [hst]
    simp only [setW]
    by_cases e : d = c
    · subst e
      rw [if_pos rfl]
      refine ofP_uniq hrc.tail fun z => ?_
      rw [withoutP_mem, ← ofP_mem, ← h.wants d hd, hS]
      constructor
      · intro hz
        have := hrc.head z hz
        exact ⟨List.mem_cons_of_mem _ hz, .inr ⟨rfl, by simp only; omega⟩⟩
      · rintro ⟨hz, q⟩
        rcases List.mem_cons.1 hz with hz | hz
        · rcases q with q | q
          · exact absurd rfl q
          · exact absurd hz q.2
        · exact hz
    · rw [if_neg e]
      refine ofP_uniq (h.ok.rise d) fun z => ?_
      rw [withoutP_mem, ← ofP_mem, ← h.wants d hd]
      exact ⟨fun q => ⟨q, .inl (by simp only; omega)⟩, fun q => q.1⟩
theorem LkRel.drop {n : Nat} {S : LkS} {hs ws : List (Int × Int)} (h : LkRel n S hs ws) (c : Nat) :
    LkRel n (dropL S c) (withoutP hs c 0 true) (withoutP ws c 0 true) := by
  refine ⟨h.ok.drop c, fun e he => h.cl e ((withoutP_mem _ _ _ _ _).1 he).1, fun y d => ?_, fun d hd => ?_⟩
  · simp only [dropL]
    rw [withoutP_mem, ← h.has]
    constructor
    · intro q
      split at q
      · cases q
      · rename_i hn
        refine ⟨q, .inl fun e => hn ?_⟩
        simp only at e
        rw [q]; congr 1; omega
    · rintro ⟨q, p⟩
      have hdc : d ≠ c := by
        rcases p with p | p
        · intro e; subst e; exact p rfl
        · cases p.1
      rw [if_neg (by rw [q]; intro e; injection e; contradiction)]
      exact q
  · simp only [dropL, setW]
    split
    · rename_i e
      subst e
      refine ofP_uniq Rise.nil fun z => ?_
      rw [withoutP_mem]
      simp
    · rename_i e
      refine ofP_uniq (h.ok.rise d) fun z => ?_
      rw [withoutP_mem, ← ofP_mem, ← h.wants d hd]
      exact ⟨fun q => ⟨q, .inl (by simp only; omega)⟩, fun q => q.1⟩
theorem LkRel.ask {n : Nat} {S : LkS} {hs ws : List (Int × Int)} (h : LkRel n S hs ws) {c : Nat} (hc : c < n) (hS : S.W c = []) {l xs : List Int} (hl : Rise l) (hm : ∀ z, z ∈ l ↔ z ∈ xs) (ha : ∀ x y, S.H x = some c → y ∈ l → x < y) :
    LkRel n (askL S c l) hs (ws ++ xs.map fun x => ((c : Int), x)) := by
  refine ⟨h.ok.ask hc hl ha, h.cl, h.has, fun d hd => ?_⟩
  simp only [askL, setW]
  by_cases e : d = c
  · subst e
    rw [if_pos rfl]
    refine ofP_uniq hl fun z => ?_
    rw [List.mem_append, ← ofP_mem, ← h.wants d hd, hS, hm]
    constructor
    · intro q; exact .inr (List.mem_map.2 ⟨z, q, rfl⟩)
    · rintro (q | q)
      · cases q
      · obtain ⟨y, hy, e⟩ := List.mem_map.1 q
        injection e with _ e
        subst e; exact hy
  · rw [if_neg e]
    refine ofP_uniq (h.ok.rise d) fun z => ?_
    rw [List.mem_append, ← ofP_mem, ← h.wants d hd]
    constructor
    · exact .inl
    · rintro (q | q)
      · exact q
      · obtain ⟨y, hy, e2⟩ := List.mem_map.1 q
        injection e2 with e2 _
        omega
/-- May a client ask for these? -/
def mayAsk (had xs : List Int) : Prop := ∀ x ∈ xs, ∀ y ∈ had, y < x
end Go.Proofs.Ytlafmdpcabgcdaa
