/-
  Layer 15: lists of runs, and the blocks that they tell.
-/
import Derived.WalkKit
namespace Go.Proofs.Ytpkhfdcokcchdab

/-- The blocks of a run; of a list. -/
def blkR (e : Int × Int) : List Int := (List.range e.2.toNat).map fun (k : Nat) => if e.1 = -1 then (-1 : Int) else e.1 + (k : Int)
def blk (l : List (Int × Int)) : List Int := l.flatMap blkR
/-- Could two runs be one? -/
def mrg (a b : Int × Int) : Bool := if a.1 = -1 ∨ b.1 = -1 then decide (a.1 = b.1) else decide (a.1 + a.2 = b.1)
/-- One run more. -/
def addR (acc : List (Int × Int)) (e : Int × Int) : List (Int × Int) :=
  match acc.getLast? with
  | some p => if mrg p e = true then acc.dropLast ++ [(p.1, p.2 + e.2)] else acc ++ [e]
  | none => [e]
def joinP (l : List (Int × Int)) : List (Int × Int) := l.foldl addR []
def runsP (b : List Int) : List (Int × Int) := joinP (b.map fun x => (x, 1))
/-- No two neighbours could be one. -/
def apartP : List (Int × Int) → Bool
  | [] => true
  | [_] => true
  | a :: b :: r => !mrg a b && apartP (b :: r)
def okR (e : Int × Int) : Prop := -1 ≤ e.1 ∧ 1 ≤ e.2

theorem addR_nil (e : Int × Int) : addR [] e = [e] := rfl
theorem addR_snoc (A : List (Int × Int)) (p e : Int × Int) : addR (A ++ [p]) e = if mrg p e = true then A ++ [(p.1, p.2 + e.2)] else A ++ [p] ++ [e] := by
  unfold addR; simp
theorem mrg_len (p : Int × Int) (a m n : Int) : mrg p (a, m) = mrg p (a, n) := rfl
theorem blkR_len (e : Int × Int) : (blkR e).length = e.2.toNat := by simp [blkR]
theorem blk_append (A B : List (Int × Int)) : blk (A ++ B) = blk A ++ blk B := by simp [blk]
theorem blk_cons (e : Int × Int) (r : List (Int × Int)) : blk (e :: r) = blkR e ++ blk r := by simp [blk]
theorem blk_nil : blk [] = [] := rfl
theorem range_up (n : Nat) : List.range (n + 1) = List.range n ++ [n] := List.range_succ
theorem blkR_up (a : Int) (n : Nat) : blkR (a, (n : Int) + 1) = blkR (a, (n : Int)) ++ [if a = -1 then -1 else a + (n : Int)] := by
  unfold blkR
  simp only
  rw [show ((n : Int) + 1).toNat = n + 1 by omega, show ((n : Int)).toNat = n by omega, range_up, List.map_append]
  rfl
theorem blkR_one (a : Int) : blkR (a, 1) = [a] := by
  have h : blkR (a, 1) = [if a = -1 then -1 else a + 0] := rfl
  rw [h]
  split
  · rename_i h; rw [h]
  · rw [Int.add_zero]
/-- A run's blocks, one by one, are the run. -/
theorem add_blocks (acc : List (Int × Int)) (a : Int) (ha : -1 ≤ a) (n : Nat) : ((blkR (a, (n : Int) + 1)).map fun x => (x, (1 : Int))).foldl addR acc = addR acc (a, (n : Int) + 1) := by
  induction n with
  | zero =>
    rw [show ((0 : Nat) : Int) + 1 = 1 by omega, blkR_one]
    rfl
  | succ n ih =>
    rw [show ((n + 1 : Nat) : Int) + 1 = ((n + 1 : Nat) : Int) + 1 from rfl, blkR_up, List.map_append, List.foldl_append]
    have e1 : ((n + 1 : Nat) : Int) = (n : Int) + 1 := by omega
    rw [e1, ih]
    simp only [List.map_cons, List.map_nil, List.foldl_cons, List.foldl_nil]
    -- the last run ends where the next block is
    have key : ∀ (A : List (Int × Int)) (p : Int × Int), (p.1 = -1 ↔ a = -1) → (a ≠ -1 → p.1 + p.2 = a + ((n : Int) + 1)) → addR (A ++ [p]) (if a = -1 then -1 else a + ((n : Int) + 1), 1) = A ++ [(p.1, p.2 + 1)] := by
      intro A p h1 h2
      rw [addR_snoc, if_pos]
      unfold mrg
      by_cases h : a = -1
      · rw [if_pos (.inl (h1.2 h)), if_pos h]; simp [h1.2 h]
      · rw [if_neg h, if_neg]
        · simp only; rw [h2 h]; simp
        · rintro (q | q)
          · exact h (h1.1 q)
          · simp only at q; omega
    rcases List.eq_nil_or_concat acc with rfl | ⟨A, p, rfl⟩
    · rw [addR_nil, addR_nil]
      exact key [] (a, (n : Int) + 1) Iff.rfl (fun _ => rfl)
    · rw [List.concat_eq_append, addR_snoc, addR_snoc]
      rw [mrg_len p a ((n : Int) + 1 + 1) ((n : Int) + 1)]
      by_cases hm : mrg p (a, (n : Int) + 1) = true
      · rw [if_pos hm, if_pos hm, key]
        · simp only; rw [show p.2 + ((n : Int) + 1) + 1 = p.2 + ((n : Int) + 1 + 1) by omega]
        · unfold mrg at hm
          simp only at hm ⊢
          split at hm
          · have := of_decide_eq_true hm; rw [this]
          · rename_i h; omega
        · intro h
          unfold mrg at hm
          simp only at hm ⊢
          split at hm
          · have := of_decide_eq_true hm; omega
          · have := of_decide_eq_true hm; omega
      · rw [if_neg hm, if_neg hm]
        exact key (A ++ [p]) (a, (n : Int) + 1) Iff.rfl (fun _ => rfl)
theorem add_run (acc : List (Int × Int)) (e : Int × Int) (h : okR e) : ((blkR e).map fun x => (x, (1 : Int))).foldl addR acc = addR acc e := by
  obtain ⟨a, m⟩ := e
  obtain ⟨h1, h2⟩ := h
  simp only at h1 h2
  have : m = ((m - 1).toNat : Int) + 1 := by omega
  rw [this]
  exact add_blocks acc a h1 _
theorem runs_fold (acc : List (Int × Int)) (l : List (Int × Int)) (h : ∀ e ∈ l, okR e) : ((blk l).map fun x => (x, (1 : Int))).foldl addR acc = l.foldl addR acc := by
  induction l generalizing acc with
  | nil => rfl
  | cons e r ih =>
    rw [blk_cons, List.map_append, List.foldl_append, add_run acc e (h e (by simp)), ih _ (fun x hx => h x (by simp [hx]))]
    rfl
/-- Runs joined are the runs of their blocks. -/
theorem runs_blk (l : List (Int × Int)) (h : ∀ e ∈ l, okR e) : runsP (blk l) = joinP l := runs_fold [] l h
theorem fold_apart (A : List (Int × Int)) (p : Int × Int) (r : List (Int × Int)) (h : apartP (p :: r) = true) : r.foldl addR (A ++ [p]) = A ++ [p] ++ r := by
  induction r generalizing A p with
  | nil => simp
  | cons e s ih =>
    unfold apartP at h
    simp only [Bool.and_eq_true, Bool.not_eq_true'] at h
    rw [List.foldl_cons, addR_snoc, if_neg (by rw [h.1]; simp), ih (A ++ [p]) e h.2]
    simp
theorem join_apart (l : List (Int × Int)) (h : apartP l = true) : joinP l = l := by
  cases l with
  | nil => rfl
  | cons e r =>
    unfold joinP
    rw [List.foldl_cons, addR_nil]
    have := fold_apart [] e r h
    simpa using this
/-- What is told of a list: the first k runs may be. -/
def okK (l : List (Int × Int)) (k : Nat) : Prop := (∀ e ∈ l.take k, -1 ≤ e.1 ∧ e.1 ≤ 65536 ∧ 1 ≤ e.2 ∧ e.2 ≤ 65536) ∧ apartP (l.take k) = true
def sumZ : List (Int × Int) → Int
  | [] => 0
  | e :: r => e.2 + sumZ r
theorem sumZ_append (A B : List (Int × Int)) : sumZ (A ++ B) = sumZ A + sumZ B := by
  induction A with
  | nil => simp [sumZ]
  | cons e r ih => simp only [List.cons_append, sumZ, ih]; omega
def Right15 (l : List (Int × Int)) : Prop := l.length ≤ 64 ∧ okK l l.length ∧ sumZ l ≤ 65536
theorem apart_snoc (A : List (Int × Int)) (p e : Int × Int) : apartP (A ++ [p] ++ [e]) = (apartP (A ++ [p]) && !mrg p e) := by
  induction A with
  | nil => simp [apartP]
  | cons x r ih =>
    cases r with
    | nil => simp [apartP, Bool.and_assoc]
    | cons y s =>
      simp only [List.cons_append, apartP] at ih ⊢
      rw [ih, Bool.and_assoc]
theorem okK_zero (l : List (Int × Int)) : okK l 0 := ⟨fun e he => by simp at he, by simp [apartP]⟩
theorem okK_one {l : List (Int × Int)} {e : Int × Int} (h : l[0]? = some e) (h1 : -1 ≤ e.1 ∧ e.1 ≤ 65536 ∧ 1 ≤ e.2 ∧ e.2 ≤ 65536) : okK l 1 := by
  obtain ⟨a, b⟩ := List.getElem?_eq_some_iff.1 h
  have : l.take 1 = [e] := by rw [List.take_succ_eq_append_getElem a, b]; rfl
  unfold okK
  rw [this]
  exact ⟨fun x hx => by simp at hx; subst hx; exact h1, rfl⟩
theorem okK_step {l : List (Int × Int)} {k : Nat} {p e : Int × Int} (hp : l[k]? = some p) (he : l[k + 1]? = some e) (h : okK l (k + 1)) (h1 : -1 ≤ e.1 ∧ e.1 ≤ 65536 ∧ 1 ≤ e.2 ∧ e.2 ≤ 65536) : okK l (k + 2) ↔ mrg p e = false := by
  obtain ⟨a, b⟩ := List.getElem?_eq_some_iff.1 he
  obtain ⟨c, d⟩ := List.getElem?_eq_some_iff.1 hp
  have e1 : l.take (k + 1) = l.take k ++ [p] := by rw [List.take_succ_eq_append_getElem c, d]
  have e2 : l.take (k + 2) = l.take k ++ [p] ++ [e] := by rw [List.take_succ_eq_append_getElem a, b, e1]
  have q := h.2
  rw [e1] at q
  unfold okK
  rw [e2, apart_snoc, q, Bool.true_and, Bool.not_eq_true']
  constructor
  · intro z; exact z.2
  · intro z
    refine ⟨fun x hx => ?_, z⟩
    rcases List.mem_append.1 hx with w | w
    · exact h.1 x (by rw [e1]; exact w)
    · simp at w; subst w; exact h1
theorem okK_mono {l : List (Int × Int)} {k : Nat} (h : okK l (k + 1)) : okK l k := by
  refine ⟨fun e he => h.1 e ?_, ?_⟩
  · rw [show k = min k (k + 1) by omega, ← List.take_take] at he
    exact List.mem_of_mem_take he
  · cases k with
    | zero => simp [apartP]
    | succ k =>
      by_cases hk : k + 1 < l.length
      · have e2 : l.take (k + 2) = l.take (k + 1) ++ [l[k + 1]] := List.take_succ_eq_append_getElem hk
        have e1 : l.take (k + 1) = l.take k ++ [l[k]] := List.take_succ_eq_append_getElem (by omega)
        have q := h.2
        rw [e2, e1, apart_snoc, Bool.and_eq_true] at q
        rw [e1]; exact q.1
      · have q := h.2
        rw [List.take_of_length_le (by omega)] at q ⊢
        exact q
theorem okK_le {l : List (Int × Int)} {k j : Nat} (h : okK l k) (hj : j ≤ k) : okK l j := by
  induction k with
  | zero =>
    have : j = 0 := by omega
    subst this
    exact h
  | succ k ih =>
    by_cases e : j = k + 1
    · subst e; exact h
    · exact ih (okK_mono h) (by omega)
theorem okK_all {l : List (Int × Int)} (h : okK l l.length) : (∀ e ∈ l, -1 ≤ e.1 ∧ e.1 ≤ 65536 ∧ 1 ≤ e.2 ∧ e.2 ≤ 65536) ∧ apartP l = true := by
  have := h
  unfold okK at this
  rwa [List.take_length] at this
theorem Right15.all {l : List (Int × Int)} (h : Right15 l) : ∀ e ∈ l, -1 ≤ e.1 ∧ e.1 ≤ 65536 ∧ 1 ≤ e.2 ∧ e.2 ≤ 65536 := (okK_all h.2.1).1
theorem Right15.apart {l : List (Int × Int)} (h : Right15 l) : apartP l = true := (okK_all h.2.1).2
theorem Right15.runs {l : List (Int × Int)} (h : Right15 l) : runsP (blk l) = l := by
  obtain ⟨h1, h2⟩ := okK_all h.2.1
  rw [runs_blk l (fun e he => ⟨(h1 e he).1, (h1 e he).2.2.1⟩), join_apart l h2]
theorem sumZ_take {l : List (Int × Int)} {k : Nat} {e : Int × Int} (h : l[k]? = some e) : sumZ (l.take (k + 1)) = sumZ (l.take k) + e.2 := by
  obtain ⟨a, b⟩ := List.getElem?_eq_some_iff.1 h
  rw [List.take_succ_eq_append_getElem a, b, sumZ_append]
  simp [sumZ]
theorem sumZ_bound {l : List (Int × Int)} {k : Nat} (h : okK l k) : 0 ≤ sumZ (l.take k) ∧ sumZ (l.take k) ≤ 65536 * k := by
  induction k with
  | zero => simp [sumZ]
  | succ k ih =>
    have h1 := ih (okK_mono h)
    by_cases hk : k < l.length
    · have he := List.getElem?_eq_getElem hk
      rw [sumZ_take he]
      have hm : l[k] ∈ l.take (k + 1) := by rw [List.take_succ_eq_append_getElem hk]; exact List.mem_append.2 (.inr (List.mem_singleton.2 rfl))
      have := h.1 _ hm
      constructor
      · omega
      · have e : (65536 : Int) * ((k + 1 : Nat) : Int) = 65536 * (k : Int) + 65536 := by push_cast; omega
        omega
    · rw [List.take_of_length_le (by omega)] at h1 ⊢
      constructor
      · omega
      · have e : (65536 : Int) * ((k + 1 : Nat) : Int) = 65536 * (k : Int) + 65536 := by push_cast; omega
        omega
theorem blk_len {l : List (Int × Int)} (h : ∀ e ∈ l, 1 ≤ e.2) : ((blk l).length : Int) = sumZ l := by
  induction l with
  | nil => rfl
  | cons e r ih =>
    have h1 := h e (by simp)
    rw [blk_cons, List.length_append, blkR_len, sumZ]
    have := ih (fun x hx => h x (by simp [hx]))
    push_cast
    omega

end Go.Proofs.Ytpkhfdcokcchdab
