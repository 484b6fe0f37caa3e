/-
  Layer 24, without the program: the document's rising list of a client's locks.
-/
import Derived.Test.YtlafmdpcabgcdaaLkP
namespace Go.Proofs.Ytlafmdpcabgcdaa

/-- One more lock put into a list, as the document's loop does it; has it been put already? -/
def runU : Bool → List Int → Int → List Int
  | true, [], _ => []
  | false, [], x => [x]
  | d, y :: r, x => (if d = false ∧ x ≤ y then [x] else []) ++ (if y ≠ x then [y] else []) ++ runU (d || decide (x ≤ y)) r x
theorem runU_true (l : List Int) (x : Int) : runU true l x = l.filter (fun y => decide (y ≠ x)) := by
  induction l with
  | nil => rfl
  | cons y r ih =>
    rw [runU, Bool.true_or, ih, List.filter_cons]
    by_cases h : y = x <;> simp [h]
theorem runU_mem (l : List Int) (x z : Int) : z ∈ runU false l x ↔ z ∈ l ∨ z = x := by
  induction l with
  | nil => simp [runU]
  | cons y r ih =>
    by_cases h : x ≤ y
    · rw [runU, if_pos ⟨rfl, h⟩, decide_eq_true h, Bool.false_or, runU_true]
      simp only [List.mem_append, List.mem_filter, List.mem_cons, List.not_mem_nil, or_false, decide_eq_true_eq]
      by_cases hy : y = x
      · subst hy
        by_cases e : z = y <;> simp [e]
      · rw [if_pos hy]
        simp only [List.mem_cons, List.not_mem_nil, or_false]
        constructor
        · rintro ((q | q) | q)
          · exact .inr q
          · exact .inl (.inl q)
          · exact .inl (.inr q.1)
        · rintro ((q | q) | q)
          · exact .inl (.inr q)
          · by_cases e : z = x
            · exact .inl (.inl e)
            · exact .inr ⟨q, e⟩
          · exact .inl (.inl q)
    · have hy : y ≠ x := fun e => h (by omega)
      rw [runU, if_neg (fun q => h q.2), decide_eq_false h, Bool.false_or, if_pos hy]
      simp only [List.nil_append, List.mem_append, List.mem_cons, List.not_mem_nil, or_false, ih]
      constructor
      · rintro (q | q | q)
        · exact .inl (.inl q)
        · exact .inl (.inr q)
        · exact .inr q
      · rintro ((q | q) | q)
        · exact .inl q
        · exact .inr (.inl q)
        · exact .inr (.inr q)
theorem runU_rise {l : List Int} (h : Rise l) (x : Int) : Rise (runU false l x) := by
  induction l with
  | nil => exact List.pairwise_singleton _ _
  | cons y r ih =>
    have hr := h.tail
    have hh := h.head
    by_cases hx : x ≤ y
    · rw [runU, if_pos ⟨rfl, hx⟩, decide_eq_true hx, Bool.false_or, runU_true]
      have hf : Rise (r.filter (fun y => decide (y ≠ x))) := List.Pairwise.sublist List.filter_sublist hr
      have hm : ∀ z ∈ r.filter (fun y => decide (y ≠ x)), y < z := fun z hz => hh z (List.mem_filter.1 hz).1
      by_cases hy : y = x
      · subst hy
        simp only [ne_eq, not_true_eq_false, if_false, List.append_nil]
        exact List.pairwise_cons.2 ⟨fun z hz => hm z hz, hf⟩
      · rw [if_pos hy]
        refine List.pairwise_cons.2 ⟨fun z hz => ?_, List.pairwise_cons.2 ⟨fun z hz => hm z hz, hf⟩⟩
        rcases List.mem_cons.1 hz with q | q
        · omega
        · have := hm z q; omega
    · have hy : y ≠ x := fun e => hx (by omega)
      rw [runU, if_neg (fun q => hx q.2), decide_eq_false hx, Bool.false_or, if_pos hy]
      refine List.pairwise_cons.2 ⟨fun z hz => ?_, ih hr⟩
      rcases (runU_mem r x z).1 hz with q | q
      · exact hh z q
      · omega
/-- The locks of a client, rising. -/
def ofP (l : List (Int × Int)) (c : Int) : List Int := (l.filter (fun e => decide (e.1 = c))).foldl (fun out e => runU false out e.2) []
theorem ofP_snoc (l : List (Int × Int)) (c : Int) (e : Int × Int) : ofP (l ++ [e]) c = if e.1 = c then runU false (ofP l c) e.2 else ofP l c := by
  unfold ofP
  rw [List.filter_append, List.foldl_append]
  by_cases h : e.1 = c <;> simp [h]
theorem ofP_rise (l : List (Int × Int)) (c : Int) : Rise (ofP l c) := by
  unfold ofP
  have key : ∀ (m : List (Int × Int)) (out : List Int), Rise out → Rise (m.foldl (fun out e => runU false out e.2) out) := by
    intro m
    induction m with
    | nil => exact fun out h => h
    | cons e r ih => exact fun out h => ih _ (runU_rise h e.2)
  exact key _ _ Rise.nil
theorem ofP_mem (l : List (Int × Int)) (c z : Int) : z ∈ ofP l c ↔ (c, z) ∈ l := by
  unfold ofP
  have key : ∀ (m : List (Int × Int)) (out : List Int), z ∈ m.foldl (fun out e => runU false out e.2) out ↔ z ∈ out ∨ ∃ e ∈ m, e.2 = z := by
    intro m
    induction m with
    | nil => simp
    | cons e r ih =>
      intro out
      rw [List.foldl_cons, ih, runU_mem]
      constructor
      · rintro ((q | q) | ⟨f, q, p⟩)
        · exact .inl q
        · exact .inr ⟨e, by simp, q.symm⟩
        · exact .inr ⟨f, by simp [q], p⟩
      · rintro (q | ⟨f, q, p⟩)
        · exact .inl (.inl q)
        · rcases List.mem_cons.1 q with rfl | q
          · exact .inl (.inr p.symm)
          · exact .inr ⟨f, q, p⟩
  rw [key]
  constructor
  · rintro (q | ⟨e, q, p⟩)
    · cases q
    · obtain ⟨q1, q2⟩ := List.mem_filter.1 q
      have q2 : e.1 = c := of_decide_eq_true q2
      have : e = (c, z) := by rw [← q2, ← p]
      rw [← this]; exact q1
  · intro h
    exact .inr ⟨(c, z), List.mem_filter.2 ⟨h, by simp⟩, rfl⟩

/-- A list of different elements, sorted, rises. -/
theorem rise_sorted {l m : List Int} (hp : l.Perm m) (hnd : m.Nodup) (hs : l.Pairwise (· ≤ ·)) : Rise l :=
  (hs.and (hp.nodup_iff.2 hnd)).imp fun ⟨a, b⟩ => by omega
/-- What rises and holds just a client's locks is that list. -/
theorem ofP_uniq {l : List (Int × Int)} {c : Int} {m : List Int} (h : Rise m) (hm : ∀ z, z ∈ m ↔ (c, z) ∈ l) : m = ofP l c :=
  h.uniq (ofP_rise l c) fun z => (hm z).trans (ofP_mem l c z).symm

end Go.Proofs.Ytlafmdpcabgcdaa
