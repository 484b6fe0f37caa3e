/-
  The document's list of what is open, beside the tables as a function.
-/
import Derived.WalkKit
namespace Go.Proofs.Ytpkhfdcokcchdaa

/-- An entry: client, number, inode, flags, place. -/
structure OpenR where
  c : Int
  f : Int
  n : Int
  g : Int
  a : Int
/-- The list L says what the tables D of n clients say. -/
structure LIs (n : Nat) (D : Nat → Nat → Int × Int × Int) (L : List OpenR) : Prop where
  each : ∀ x ∈ L, ∃ c f : Nat, x.c = c ∧ x.f = f ∧ c < n ∧ f < 16 ∧ D c f = (x.n, x.g, x.a) ∧ x.g ≠ 0
  once : ∀ (i j : Nat) (x y : OpenR), L[i]? = some x → L[j]? = some y → x.c = y.c → x.f = y.f → i = j
  all : ∀ c f, c < n → f < 16 → (D c f).2.1 ≠ 0 → ∃ x ∈ L, x.c = (c : Int) ∧ x.f = (f : Int)
/-- The first entry of a client's number. -/
def findR : List OpenR → Int → Int → Option Nat
  | [], _, _ => none
  | x :: r, c, f => if x.c = c ∧ x.f = f then some 0 else (findR r c f).map (· + 1)
theorem findR_some {L : List OpenR} {c f : Int} {k : Nat} (h : findR L c f = some k) : ∃ x, L[k]? = some x ∧ x.c = c ∧ x.f = f ∧ ∀ j y, j < k → L[j]? = some y → ¬ (y.c = c ∧ y.f = f) := by
  induction L generalizing k with
  | nil => cases h
  | cons x r ih =>
    unfold findR at h
    split at h
    · rename_i q
      injection h with h; subst h
      exact ⟨x, rfl, q.1, q.2, fun j y hj => by omega⟩
    · rename_i q
      obtain ⟨i, hi, rfl⟩ := Option.map_eq_some_iff.1 h
      obtain ⟨y, h1, h2, h3, h4⟩ := ih hi
      refine ⟨y, by simpa using h1, h2, h3, fun j z hj hz => ?_⟩
      cases j with
      | zero => simp at hz; subst hz; exact q
      | succ j => exact h4 j z (by omega) (by simpa using hz)
theorem findR_none {L : List OpenR} {c f : Int} (h : findR L c f = none) : ∀ x ∈ L, ¬ (x.c = c ∧ x.f = f) := by
  induction L with
  | nil => intro x hx; cases hx
  | cons y r ih =>
    unfold findR at h
    split at h
    · cases h
    · rename_i q
      intro x hx
      rcases List.mem_cons.1 hx with e | e
      · subst e; exact q
      · exact ih (by simpa using h) x e
theorem findR_is {L : List OpenR} {c f : Int} {k : Nat} {x : OpenR} (h : L[k]? = some x) (h1 : x.c = c) (h2 : x.f = f) (h3 : ∀ j y, j < k → L[j]? = some y → ¬ (y.c = c ∧ y.f = f)) : findR L c f = some k := by
  induction L generalizing k with
  | nil => cases h
  | cons y r ih =>
    unfold findR
    cases k with
    | zero => simp at h; subst h; rw [if_pos ⟨h1, h2⟩]
    | succ k =>
      rw [if_neg (h3 0 y (by omega) rfl), ih (k := k) (by simpa using h) (fun j z hj hz => h3 (j + 1) z (by omega) (by simpa using hz))]
      rfl
theorem findR_is_none {L : List OpenR} {c f : Int} (h : ∀ (j : Nat) (y : OpenR), L[j]? = some y → ¬ (y.c = c ∧ y.f = f)) : findR L c f = none := by
  cases q : findR L c f with
  | none => rfl
  | some k =>
    obtain ⟨x, h1, h2, h3, _⟩ := findR_some q
    exact absurd ⟨h2, h3⟩ (h k x h1)
/-- Found just if it is open. -/
theorem LIs.found {n : Nat} {D : Nat → Nat → Int × Int × Int} {L : List OpenR} (h : LIs n D L) {c f : Nat} (hc : c < n) (hf : f < 16) (hD : (D c f).2.1 ≠ 0) :
    ∃ k x, findR L c f = some k ∧ L[k]? = some x ∧ x.c = (c : Int) ∧ x.f = (f : Int) ∧ D c f = (x.n, x.g, x.a) := by
  cases q : findR L c f with
  | none =>
    obtain ⟨x, hx, h1, h2⟩ := h.all c f hc hf hD
    exact absurd ⟨h1, h2⟩ (findR_none q x hx)
  | some k =>
    obtain ⟨x, h1, h2, h3, _⟩ := findR_some q
    obtain ⟨c', f', e1, e2, _, _, e3, _⟩ := h.each x (List.mem_of_getElem? h1)
    have : c' = c := by omega
    have : f' = f := by omega
    subst c' f'
    exact ⟨k, x, rfl, h1, h2, h3, e3⟩
theorem LIs.lost {n : Nat} {D : Nat → Nat → Int × Int × Int} {L : List OpenR} (h : LIs n D L) {c : Nat} {f : Int} (hD : f < 0 ∨ 16 ≤ f ∨ (D c f.toNat).2.1 = 0) : findR L c f = none := by
  cases q : findR L c f with
  | none => rfl
  | some k =>
    obtain ⟨x, h1, h2, h3, _⟩ := findR_some q
    obtain ⟨c', f', e1, e2, e4, e5, e3, e6⟩ := h.each x (List.mem_of_getElem? h1)
    have hc' : c' = c := by omega
    subst hc'
    have hf' : f.toNat = f' := by omega
    rw [hf', e3] at hD
    simp only at hD
    rcases hD with hD | hD | hD <;> omega
def updR (D : Nat → Nat → Int × Int × Int) (c f : Nat) (v : Int × Int × Int) : Nat → Nat → Int × Int × Int := fun c' f' => if c' = c ∧ f' = f then v else D c' f'
theorem LIs.nil (n : Nat) : LIs n (fun _ _ => (0, 0, 0)) [] where
  each := fun _ h => by cases h
  once := fun i j x y h => by simp at h
  all := fun c f _ _ h => absurd rfl h
theorem LIs.add {n : Nat} {D : Nat → Nat → Int × Int × Int} {L : List OpenR} (h : LIs n D L) {c f : Nat} (hc : c < n) (hf : f < 16) (hD : (D c f).2.1 = 0) (x : OpenR) (h1 : x.c = c) (h2 : x.f = f) (h3 : x.g ≠ 0) : LIs n (updR D c f (x.n, x.g, x.a)) (L ++ [x]) := by
  have ne : ∀ y ∈ L, ¬ (y.c = (c : Int) ∧ y.f = (f : Int)) := by
    intro y hy e
    obtain ⟨c', f', e1, e2, _, _, e3, e6⟩ := h.each y hy
    have : c' = c := by omega
    have : f' = f := by omega
    subst c' f'
    rw [e3] at hD
    exact e6 hD
  refine ⟨fun y hy => ?_, fun i j y z hi hj e1 e2 => ?_, fun c' f' hc' hf' hx => ?_⟩
  · rcases List.mem_append.1 hy with q | q
    · obtain ⟨c', f', e1, e2, e4, e5, e3, e6⟩ := h.each y q
      refine ⟨c', f', e1, e2, e4, e5, ?_, e6⟩
      unfold updR
      rw [if_neg (fun e => ne y q ⟨by omega, by omega⟩), e3]
    · simp at q; subst q
      exact ⟨c, f, h1, h2, hc, hf, by simp [updR], h3⟩
  · rw [List.getElem?_append] at hi hj
    split at hi <;> split at hj
    · exact h.once i j y z hi hj e1 e2
    · rename_i a b
      rw [List.getElem?_singleton] at hj
      split at hj
      · injection hj with hj; subst hj
        exact absurd ⟨by omega, by omega⟩ (ne y (List.mem_of_getElem? hi))
      · cases hj
    · rename_i a b
      rw [List.getElem?_singleton] at hi
      split at hi
      · injection hi with hi; subst hi
        exact absurd ⟨by omega, by omega⟩ (ne z (List.mem_of_getElem? hj))
      · cases hi
    · rw [List.getElem?_singleton] at hi hj
      split at hi <;> split at hj <;> simp_all
      omega
  · unfold updR at hx
    by_cases e : c' = c ∧ f' = f
    · exact ⟨x, by simp, by omega, by omega⟩
    · rw [if_neg e] at hx
      obtain ⟨y, hy, q⟩ := h.all c' f' hc' hf' hx
      exact ⟨y, by simp [hy], q⟩
theorem LIs.seek {n : Nat} {D : Nat → Nat → Int × Int × Int} {L : List OpenR} (h : LIs n D L) {c f k : Nat} {x : OpenR} (hk : L[k]? = some x) (h1 : x.c = c) (h2 : x.f = f) (a : Int) : LIs n (updR D c f ((D c f).1, (D c f).2.1, a)) (L.set k { x with a := a }) := by
  have hkl := (List.getElem?_eq_some_iff.1 hk).1
  obtain ⟨cx, fx, ex1, ex2, ex4, ex5, ex3, ex6⟩ := h.each x (List.mem_of_getElem? hk)
  have : cx = c := by omega
  have : fx = f := by omega
  subst cx fx
  have get : ∀ (i : Nat) (y : OpenR), (L.set k { x with a := a })[i]? = some y → ∃ z, L[i]? = some z ∧ z.c = y.c ∧ z.f = y.f ∧ z.n = y.n ∧ z.g = y.g ∧ (i = k ∧ y.a = a ∧ z = x ∨ i ≠ k ∧ z = y) := by
    intro i y hy
    rw [List.getElem?_set] at hy
    split at hy
    · rename_i e
      subst e
      injection hy with hy
      subst hy
      exact ⟨x, hk, rfl, rfl, rfl, rfl, .inl ⟨rfl, rfl, rfl⟩⟩
    · rename_i e
      exact ⟨y, hy, rfl, rfl, rfl, rfl, .inr ⟨fun q => e q.symm, rfl⟩⟩
  refine ⟨fun y hy => ?_, fun i j y z hi hj e1 e2 => ?_, fun c' f' hc' hf' hx => ?_⟩
  · obtain ⟨i, hi⟩ := List.getElem?_of_mem hy
    obtain ⟨z, hz, q1, q2, q3, q4, q5⟩ := get i y hi
    rcases q5 with ⟨e, ea, ez⟩ | ⟨e, ez⟩
    · subst ez
      refine ⟨c, f, by omega, by omega, ex4, ex5, ?_, by rw [← q4]; exact ex6⟩
      simp [updR, ex3, q3, q4, ea]
    · subst ez
      obtain ⟨c', f', e1, e2, e4, e5, e3, e6⟩ := h.each z (List.mem_of_getElem? hz)
      refine ⟨c', f', e1, e2, e4, e5, ?_, e6⟩
      unfold updR
      rw [if_neg (fun q => e (h.once i k z x hz hk (by omega) (by omega))), e3]
  · obtain ⟨y', hy', p1, p2, _⟩ := get i y hi
    obtain ⟨z', hz', r1, r2, _⟩ := get j z hj
    exact h.once i j y' z' hy' hz' (by omega) (by omega)
  · have hx' : (D c' f').2.1 ≠ 0 := by
      unfold updR at hx
      split at hx
      · rename_i e; rw [e.1, e.2]; exact hx
      · exact hx
    obtain ⟨y, hy, q1, q2⟩ := h.all c' f' hc' hf' hx'
    obtain ⟨i, hi⟩ := List.getElem?_of_mem hy
    by_cases e : i = k
    · subst e
      rw [hk] at hi
      injection hi with hi
      subst hi
      refine ⟨{ x with a := a }, ?_, q1, q2⟩
      exact List.mem_of_getElem? (i := i) (by rw [List.getElem?_set, if_pos rfl, if_pos hkl])
    · refine ⟨y, ?_, q1, q2⟩
      exact List.mem_of_getElem? (i := i) (by rw [List.getElem?_set, if_neg (fun q => e q.symm)]; exact hi)
theorem LIs.close {n : Nat} {D : Nat → Nat → Int × Int × Int} {L : List OpenR} (h : LIs n D L) {c f k : Nat} {x : OpenR} (hk : L[k]? = some x) (h1 : x.c = c) (h2 : x.f = f) : LIs n (updR D c f (0, 0, 0)) (L.eraseIdx k) := by
  have hkl := (List.getElem?_eq_some_iff.1 hk).1
  have get : ∀ (i : Nat) (y : OpenR), (L.eraseIdx k)[i]? = some y → ∃ j, L[j]? = some y ∧ j ≠ k ∧ (i < k ∧ j = i ∨ k ≤ i ∧ j = i + 1) := by
    intro i y hy
    rw [List.getElem?_eraseIdx] at hy
    split at hy
    · exact ⟨i, hy, by omega, .inl ⟨by assumption, rfl⟩⟩
    · exact ⟨i + 1, hy, by omega, .inr ⟨by omega, rfl⟩⟩
  refine ⟨fun y hy => ?_, fun i j y z hi hj e1 e2 => ?_, fun c' f' hc' hf' hx => ?_⟩
  · obtain ⟨i, hi⟩ := List.getElem?_of_mem hy
    obtain ⟨j, hj, hne, _⟩ := get i y hi
    obtain ⟨c', f', e1, e2, e4, e5, e3, e6⟩ := h.each y (List.mem_of_getElem? hj)
    refine ⟨c', f', e1, e2, e4, e5, ?_, e6⟩
    unfold updR
    rw [if_neg (fun q => hne (h.once j k y x hj hk (by omega) (by omega))), e3]
  · obtain ⟨i', hi', _, qi⟩ := get i y hi
    obtain ⟨j', hj', _, qj⟩ := get j z hj
    have := h.once i' j' y z hi' hj' e1 e2
    omega
  · unfold updR at hx
    by_cases e : c' = c ∧ f' = f
    · rw [if_pos e] at hx; exact absurd rfl hx
    · rw [if_neg e] at hx
      obtain ⟨y, hy, q1, q2⟩ := h.all c' f' hc' hf' hx
      obtain ⟨i, hi⟩ := List.getElem?_of_mem hy
      have hne : i ≠ k := by
        intro q
        subst q
        rw [hk] at hi
        injection hi with hi
        subst hi
        exact e ⟨by omega, by omega⟩
      refine ⟨y, ?_, q1, q2⟩
      by_cases q : i < k
      · exact List.mem_of_getElem? (i := i) (by rw [List.getElem?_eraseIdx, if_pos q]; exact hi)
      · exact List.mem_of_getElem? (i := i - 1) (by rw [List.getElem?_eraseIdx, if_neg (by omega), show i - 1 + 1 = i by omega]; exact hi)

/-! ### How many -/
def wP (p : Int → Bool) (v : Int × Int × Int) : Nat := if v.2.1 ≠ 0 ∧ p v.1 = true then 1 else 0
def cntPT (t : Nat → Int × Int × Int) (p : Int → Bool) : Nat → Nat
  | 0 => 0
  | j + 1 => cntPT t p j + wP p (t j)
def cntPD (D : Nat → Nat → Int × Int × Int) (p : Int → Bool) : Nat → Nat
  | 0 => 0
  | c + 1 => cntPD D p c + cntPT (D c) p 16
theorem cntPT_upd (D : Nat → Nat → Int × Int × Int) (p : Int → Bool) (c f : Nat) (v : Int × Int × Int) (j : Nat) :
    cntPT (updR D c f v c) p j + (if f < j then wP p (D c f) else 0) = cntPT (D c) p j + (if f < j then wP p v else 0) := by
  induction j with
  | zero => simp [cntPT]
  | succ j ih =>
    simp only [cntPT]
    by_cases e : j = f
    · subst e
      have : updR D c j v c j = v := by simp [updR]
      rw [this, if_pos (by omega), if_pos (by omega)]
      rw [if_neg (by omega), if_neg (by omega)] at ih
      omega
    · have : updR D c f v c j = D c j := by simp [updR, e]
      rw [this]
      by_cases q : f < j
      · rw [if_pos (by omega), if_pos (by omega)]
        rw [if_pos q, if_pos q] at ih
        omega
      · rw [if_neg (by omega), if_neg (by omega)]
        rw [if_neg q, if_neg q] at ih
        omega
theorem cntPT_same (D : Nat → Nat → Int × Int × Int) (p : Int → Bool) (c f c' : Nat) (v : Int × Int × Int) (h : c' ≠ c) (j : Nat) : cntPT (updR D c f v c') p j = cntPT (D c') p j := by
  have : updR D c f v c' = D c' := by
    funext g
    simp [updR, h]
  rw [this]
theorem cntPD_upd (D : Nat → Nat → Int × Int × Int) (p : Int → Bool) (c f : Nat) (v : Int × Int × Int) (hf : f < 16) (n : Nat) :
    cntPD (updR D c f v) p n + (if c < n then wP p (D c f) else 0) = cntPD D p n + (if c < n then wP p v else 0) := by
  induction n with
  | zero => simp [cntPD]
  | succ n ih =>
    simp only [cntPD]
    by_cases e : n = c
    · subst e
      have := cntPT_upd D p n f v 16
      rw [if_pos hf, if_pos hf] at this
      rw [if_neg (by omega), if_neg (by omega)] at ih
      rw [if_pos (by omega), if_pos (by omega)]
      omega
    · rw [cntPT_same D p c f n v e]
      by_cases q : c < n
      · rw [if_pos (by omega), if_pos (by omega)]
        rw [if_pos q, if_pos q] at ih
        omega
      · rw [if_neg (by omega), if_neg (by omega)]
        rw [if_neg q, if_neg q] at ih
        omega
def cntL (p : Int → Bool) (L : List OpenR) : Nat := (L.filter fun x => p x.n).length
def LCnt (n : Nat) (D : Nat → Nat → Int × Int × Int) (L : List OpenR) : Prop := ∀ p, cntL p L = cntPD D p n
theorem cntL_erase (p : Int → Bool) (L : List OpenR) (k : Nat) (x : OpenR) (h : L[k]? = some x) : cntL p (L.eraseIdx k) + (if p x.n = true then 1 else 0) = cntL p L := by
  induction L generalizing k with
  | nil => cases h
  | cons y r ih =>
    cases k with
    | zero =>
      simp at h; subst h
      by_cases q : p y.n = true <;> simp [cntL, q]
    | succ k =>
      have := ih k (by simpa using h)
      by_cases q : p y.n = true
      · simp [cntL, q] at this ⊢; omega
      · simp [cntL, q] at this ⊢; omega
theorem cntL_set (p : Int → Bool) (L : List OpenR) (k : Nat) (x y : OpenR) (h : L[k]? = some x) (hy : y.n = x.n) : cntL p (L.set k y) = cntL p L := by
  induction L generalizing k with
  | nil => cases h
  | cons z r ih =>
    cases k with
    | zero =>
      simp at h; subst h
      by_cases q : p z.n = true <;> simp [cntL, hy, q]
    | succ k =>
      have := ih k (by simpa using h)
      by_cases q : p z.n = true
      · simp [cntL, q] at this ⊢; omega
      · simp [cntL, q] at this ⊢; omega
theorem cntPD_none (p : Int → Bool) (n : Nat) : cntPD (fun _ _ => (0, 0, 0)) p n = 0 := by
  have t : ∀ j, cntPT (fun _ => ((0, 0, 0) : Int × Int × Int)) p j = 0 := by
    intro j
    induction j with
    | zero => rfl
    | succ j ih => simp only [cntPT, ih]; simp [wP]
  induction n with
  | zero => rfl
  | succ n ih => simp only [cntPD, ih, t]
theorem LCnt.nil (n : Nat) : LCnt n (fun _ _ => (0, 0, 0)) [] := fun p => by rw [cntPD_none]; rfl
theorem LCnt.add {n : Nat} {D : Nat → Nat → Int × Int × Int} {L : List OpenR} (h : LCnt n D L) {c f : Nat} (hc : c < n) (hf : f < 16) (hD : (D c f).2.1 = 0) (x : OpenR) (h3 : x.g ≠ 0) : LCnt n (updR D c f (x.n, x.g, x.a)) (L ++ [x]) := by
  intro p
  have u := cntPD_upd D p c f (x.n, x.g, x.a) hf n
  have hp := h p
  rw [if_pos hc, if_pos hc] at u
  have w0 : wP p (D c f) = 0 := by simp [wP, hD]
  have e1 : cntL p (L ++ [x]) = cntL p L + wP p (x.n, x.g, x.a) := by
    unfold cntL wP
    rw [List.filter_append, List.length_append]
    by_cases q : p x.n = true <;> simp [q, h3]
  omega
theorem LCnt.seek {n : Nat} {D : Nat → Nat → Int × Int × Int} {L : List OpenR} (h : LCnt n D L) {c f k : Nat} {x : OpenR} (hc : c < n) (hf : f < 16) (hk : L[k]? = some x) (a : Int) : LCnt n (updR D c f ((D c f).1, (D c f).2.1, a)) (L.set k { x with a := a }) := by
  intro p
  have u := cntPD_upd D p c f ((D c f).1, (D c f).2.1, a) hf n
  rw [if_pos hc, if_pos hc] at u
  have e : wP p ((D c f).1, (D c f).2.1, a) = wP p (D c f) := rfl
  rw [cntL_set p L k x { x with a := a } hk rfl, h p]
  omega
theorem LCnt.close {n : Nat} {D : Nat → Nat → Int × Int × Int} {L : List OpenR} (h : LCnt n D L) (hL : LIs n D L) {c f k : Nat} {x : OpenR} (hc : c < n) (hf : f < 16) (hk : L[k]? = some x) (h1 : x.c = c) (h2 : x.f = f) : LCnt n (updR D c f (0, 0, 0)) (L.eraseIdx k) := by
  intro p
  have u := cntPD_upd D p c f (0, 0, 0) hf n
  rw [if_pos hc, if_pos hc] at u
  have e := cntL_erase p L k x hk
  have hp := h p
  obtain ⟨c', f', e1, e2, e4, e5, e3, e6⟩ := hL.each x (List.mem_of_getElem? hk)
  have : c' = c := by omega
  have : f' = f := by omega
  subst c' f'
  have e0 : wP p (0, 0, 0) = 0 := by simp [wP]
  have e7 : wP p (D c f) = if p x.n = true then 1 else 0 := by
    unfold wP
    rw [e3]
    by_cases q : p x.n = true <;> simp [q, e6]
  omega
theorem LCnt.len {n : Nat} {D : Nat → Nat → Int × Int × Int} {L : List OpenR} (h : LCnt n D L) : L.length = cntPD D (fun _ => true) n := by
  rw [← h]
  unfold cntL
  rw [List.filter_eq_self.2 (fun _ _ => rfl)]
theorem cntPD_le (D : Nat → Nat → Int × Int × Int) (p : Int → Bool) (n : Nat) : cntPD D p n ≤ 16 * n := by
  have t : ∀ t j, cntPT t p j ≤ j := by
    intro t j
    induction j with
    | zero => exact Nat.le_refl _
    | succ j ih =>
      have : wP p (t j) ≤ 1 := by unfold wP; split <;> omega
      simp only [cntPT]; omega
  induction n with
  | zero => simp [cntPD]
  | succ n ih => have := t (D n) 16; simp only [cntPD]; omega

end Go.Proofs.Ytpkhfdcokcchdaa
