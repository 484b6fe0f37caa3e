/-
  Layer 18: a path's pieces, its way and its text, without the program.
-/
import Derived.Test.YtnmenihahgggmaaPure
import Derived.Lib.Join
import Derived.Lib.Strings
import Derived.Lib.Bytealg
namespace Go.Proofs.Ytnmenihahgggmaa

/-- May it be a name? -/
def nameP (p : List UInt8) : Bool := decide (1 ≤ p.length) && decide (p.length ≤ 32) && decide (p ≠ [46]) && decide (p ≠ [46, 46]) && p.all (fun b => decide (b ≠ 0) && decide (b ≠ 47))
/-- The pieces between slashes, c standing ahead of the first. -/
def pg (c : List UInt8) : List UInt8 → List (List UInt8)
  | [] => [c]
  | x :: r => if x = 47 then c :: pg [] r else pg (c ++ [x]) r
def keepP (p : List UInt8) : Bool := decide (p ≠ []) && decide (p ≠ [46])
def okP (p : List UInt8) : Bool := decide (p = [46, 46]) || nameP p
def partsP (s : List UInt8) : List (List UInt8) := (pg [] s).filter keepP
def lastP (s : List UInt8) : List UInt8 := ((pg [] s).getLast?).getD []
def errP (s : List UInt8) : Int := if s = [] then 13 else if 256 < s.length then 9 else if (partsP s).all okP then 0 else 18
def absP (s : List UInt8) : Bool := decide (s.head? = some 47)
def dirP (s : List UInt8) : Bool := !keepP (lastP s)
def joinS (L : List (List UInt8)) : List UInt8 := Lib.join L [47]
def textP (a : Bool) (L : List (List UInt8)) (d : Bool) : List UInt8 :=
  if a then 47 :: (joinS L ++ if d ∧ L ≠ [] then [47] else []) else if L = [] then [46] else joinS L ++ (if d then [47] else [])

theorem pg_clean {c s : List UInt8} (h : 47 ∉ s) : pg c s = [c ++ s] := by
  induction s generalizing c with
  | nil => simp [pg]
  | cons x r ih =>
    have hx : x ≠ 47 := fun e => h (by simp [e])
    have hr : 47 ∉ r := fun e => h (by simp [e])
    rw [pg, if_neg hx, ih hr]
    simp
theorem pg_slash (c a b : List UInt8) : pg c (a ++ 47 :: b) = pg c a ++ pg [] b := by
  induction a generalizing c with
  | nil => simp [pg]
  | cons x r ih =>
    by_cases hx : x = 47
    · subst hx
      simp only [List.cons_append, pg, if_true, ih]
    · simp only [List.cons_append, pg, hx, if_false, ih]
theorem pg_cut {c a b : List UInt8} (h : 47 ∉ a) : pg c (a ++ 47 :: b) = (c ++ a) :: pg [] b := by
  rw [pg_slash, pg_clean h]; rfl
theorem pg_ne (c s : List UInt8) : pg c s ≠ [] := by
  induction s generalizing c with
  | nil => simp [pg]
  | cons x r ih =>
    by_cases hx : x = 47
    · simp [pg, hx]
    · simp only [pg, hx, if_false]; exact ih _
theorem pg_len (c s : List UInt8) : (pg c s).length ≤ s.length + 1 := by
  induction s generalizing c with
  | nil => simp [pg]
  | cons x r ih =>
    by_cases hx : x = 47
    · simp only [pg, hx, if_true, List.length_cons]; have := ih []; omega
    · simp only [pg, hx, if_false, List.length_cons]; have := ih (c ++ [x]); omega
/-- Every piece holds no slash. -/
theorem pg_no {c s : List UInt8} (hc : 47 ∉ c) : ∀ p ∈ pg c s, 47 ∉ p := by
  induction s generalizing c with
  | nil => simpa [pg] using hc
  | cons x r ih =>
    intro p hp
    by_cases hx : x = 47
    · simp only [pg, hx, if_true, List.mem_cons] at hp
      rcases hp with rfl | hp
      · exact hc
      · exact ih (by simp) p hp
    · simp only [pg, hx, if_false] at hp
      exact ih (by simp [hc]; exact fun e => hx e.symm) p hp
/-- How long all pieces are. -/
theorem pg_sum (c s : List UInt8) : ((pg c s).map List.length).sum ≤ c.length + s.length := by
  induction s generalizing c with
  | nil => simp [pg]
  | cons x r ih =>
    by_cases hx : x = 47
    · simp only [pg, hx, if_true, List.map_cons, List.sum_cons, List.length_cons]
      have := ih []
      simp at this
      omega
    · simp only [pg, hx, if_false, List.length_cons]
      have := ih (c ++ [x])
      simp at this
      omega
theorem parts_no (s : List UInt8) : ∀ p ∈ partsP s, 47 ∉ p ∧ p ≠ [] ∧ p ≠ [46] := by
  intro p hp
  obtain ⟨h1, h2⟩ := List.mem_filter.1 hp
  simp [keepP] at h2
  exact ⟨pg_no (by simp) p h1, h2⟩
theorem parts_len (s : List UInt8) : (partsP s).length ≤ s.length + 1 := Nat.le_trans (List.length_filter_le _ _) (pg_len _ _)
theorem sum_filter (f : List UInt8 → Bool) (L : List (List UInt8)) : ((L.filter f).map List.length).sum ≤ (L.map List.length).sum := by
  induction L with
  | nil => simp
  | cons x r ih =>
    by_cases hx : f x
    · simp only [List.filter_cons_of_pos hx, List.map_cons, List.sum_cons]; omega
    · simp only [List.filter_cons_of_neg hx, List.map_cons, List.sum_cons]; omega
theorem parts_sum (s : List UInt8) : ((partsP s).map List.length).sum ≤ s.length := by
  have := pg_sum [] s
  simp at this
  exact Nat.le_trans (sum_filter _ _) this
theorem joinS_nil : joinS [] = [] := rfl
theorem joinS_one (x : List UInt8) : joinS [x] = x := Lib.join_one _ _
theorem joinS_cons (x y : List UInt8) (r : List (List UInt8)) : joinS (x :: y :: r) = x ++ 47 :: joinS (y :: r) := by
  unfold joinS
  rw [Lib.join_cons, Lib.join_cons]
  simp [Lib.joinTail]
theorem joinS_len (L : List (List UInt8)) : (joinS L).length ≤ (L.map List.length).sum + L.length := by
  induction L with
  | nil => simp [joinS_nil]
  | cons x r ih =>
    cases r with
    | nil => rw [joinS_one]; simp
    | cons y r => rw [joinS_cons]; simp at ih ⊢; omega
theorem joinS_snoc (L : List (List UInt8)) (x : List UInt8) : joinS (L ++ [x]) = (if L = [] then x else joinS L ++ 47 :: x) := by
  induction L with
  | nil => simp [joinS_one]
  | cons y r ih =>
    cases r with
    | nil => simp [joinS_cons, joinS_one]
    | cons z r =>
      have e : y :: z :: r ++ [x] = y :: z :: (r ++ [x]) := rfl
      rw [e, joinS_cons, joinS_cons]
      have : z :: (r ++ [x]) = z :: r ++ [x] := rfl
      rw [this, ih]
      simp
theorem joinS_ne {L : List (List UInt8)} (h : L ≠ []) (hp : ∀ p ∈ L, p ≠ []) : joinS L ≠ [] := by
  cases L with
  | nil => exact absurd rfl h
  | cons x r =>
    have := hp x (by simp)
    cases r with
    | nil => rw [joinS_one]; exact this
    | cons y r => rw [joinS_cons]; simp
theorem pg_join {L : List (List UInt8)} (h : L ≠ []) (hp : ∀ p ∈ L, 47 ∉ p) : pg [] (joinS L) = L := by
  induction L with
  | nil => exact absurd rfl h
  | cons x r ih =>
    cases r with
    | nil => rw [joinS_one, pg_clean (hp x (by simp))]; rfl
    | cons y r =>
      rw [joinS_cons, pg_cut (hp x (by simp)), ih (by simp) (fun p h => hp p (by simp [h]))]
      rfl
theorem joinS_head {L : List (List UInt8)} (h : L ≠ []) (hp : ∀ p ∈ L, 47 ∉ p ∧ p ≠ []) : (joinS L).head? ≠ some 47 := by
  cases L with
  | nil => exact absurd rfl h
  | cons x r =>
    obtain ⟨h1, h2⟩ := hp x (by simp)
    cases x with
    | nil => exact absurd rfl h2
    | cons c q =>
      have : c ≠ 47 := fun e => h1 (by simp [e])
      cases r with
      | nil => rw [joinS_one]; simpa using this
      | cons y r => rw [joinS_cons]; simpa using this
/-- The pieces of a way's text. -/
theorem pg_text {L : List (List UInt8)} (a d : Bool) (hp : ∀ p ∈ L, 47 ∉ p ∧ p ≠ [] ∧ p ≠ [46]) :
    pg [] (textP a L d) = if L = [] then (if a then [[], []] else [[46]]) else (if a then [[]] else []) ++ L ++ (if d then [[]] else []) := by
  by_cases hL : L = []
  · subst hL
    cases a <;> simp [textP, joinS_nil, pg]
  · have hj := pg_join hL (fun p h => (hp p h).1)
    have hs : pg [] (joinS L ++ [47]) = L ++ [[]] := by rw [pg_slash, hj]; rfl
    cases a <;> cases d <;> simp [textP, hL, hj, hs, pg]
theorem filter_parts {L : List (List UInt8)} (hp : ∀ p ∈ L, 47 ∉ p ∧ p ≠ [] ∧ p ≠ [46]) : L.filter keepP = L :=
  List.filter_eq_self.2 fun p h => by have := hp p h; simp [keepP, this.2.1, this.2.2]
theorem parts_text {L : List (List UInt8)} (a d : Bool) (hp : ∀ p ∈ L, 47 ∉ p ∧ p ≠ [] ∧ p ≠ [46]) : partsP (textP a L d) = L := by
  unfold partsP
  rw [pg_text a d hp]
  by_cases hL : L = []
  · subst hL; cases a <;> rfl
  · rw [if_neg hL, List.filter_append, List.filter_append, filter_parts hp]
    cases a <;> cases d <;> simp [keepP]
theorem text_ne (a d : Bool) {L : List (List UInt8)} (hp : ∀ p ∈ L, p ≠ []) : textP a L d ≠ [] := by
  unfold textP
  cases a
  · by_cases hL : L = []
    · simp [hL]
    · have := joinS_ne hL hp
      simp [hL, this]
  · simp
theorem abs_text {L : List (List UInt8)} (a d : Bool) (hp : ∀ p ∈ L, 47 ∉ p ∧ p ≠ [] ∧ p ≠ [46]) : absP (textP a L d) = a := by
  unfold absP textP
  cases a
  · by_cases hL : L = []
    · simp [hL]
    · have h1 := joinS_head hL (fun p h => ⟨(hp p h).1, (hp p h).2.1⟩)
      have h2 := joinS_ne hL (fun p h => (hp p h).2.1)
      obtain ⟨c, q, hc⟩ := List.exists_cons_of_ne_nil h2
      rw [hc] at h1
      simp [hL, hc] at h1 ⊢
      exact h1
  · simp
theorem dir_text {L : List (List UInt8)} (a d : Bool) (hp : ∀ p ∈ L, 47 ∉ p ∧ p ≠ [] ∧ p ≠ [46]) : dirP (textP a L d) = (d || decide (L = [])) := by
  unfold dirP lastP
  rw [pg_text a d hp]
  by_cases hL : L = []
  · subst hL; cases a <;> cases d <;> rfl
  · rw [if_neg hL]
    cases d
    · obtain ⟨A, x, rfl⟩ : ∃ A x, L = A ++ [x] := ⟨L.dropLast, L.getLast hL, (List.dropLast_concat_getLast hL).symm⟩
      have hx := hp x (by simp)
      have : (if a = true then [[]] else []) ++ (A ++ [x]) ++ (if false = true then [([] : List UInt8)] else []) = ((if a = true then [[]] else []) ++ A) ++ [x] := by simp
      rw [this, List.getLast?_append]
      simp [keepP, hx.2.1, hx.2.2]
    · rw [List.getLast?_append]
      simp [keepP]
/-- What Parse says of a way's text. -/
theorem err_text {L : List (List UInt8)} (a d : Bool) (hp : ∀ p ∈ L, 47 ∉ p ∧ p ≠ [] ∧ p ≠ [46]) (ho : L.all okP = true) : errP (textP a L d) = if 256 < (textP a L d).length then 9 else 0 := by
  unfold errP
  rw [if_neg (text_ne a d (fun p h => (hp p h).2.1)), parts_text a d hp, ho]
  simp
theorem text_dir (a d : Bool) (L : List (List UInt8)) : textP a L (d || decide (L = [])) = textP a L d := by
  unfold textP
  by_cases hL : L = []
  · simp [hL]
  · simp [hL]
theorem name_parts {p : List UInt8} (h : nameP p = true) : 47 ∉ p ∧ p ≠ [] ∧ p ≠ [46] ∧ p.length ≤ 32 := by
  simp only [nameP, Bool.and_eq_true, decide_eq_true_eq, List.all_eq_true] at h
  obtain ⟨⟨⟨⟨h1, h2⟩, h3⟩, _⟩, h4⟩ := h
  exact ⟨fun e => (h4 _ e).2 rfl, fun e => by rw [e] at h1; simp at h1, h3, h2⟩
theorem text_len (a d : Bool) (L : List (List UInt8)) : (textP a L d).length ≤ (L.map List.length).sum + L.length + 2 := by
  have := joinS_len L
  unfold textP
  cases a
  · by_cases hL : L = []
    · simp [hL]
    · cases d <;> simp [hL] <;> omega
  · cases d <;> by_cases hL : L = [] <;> simp [hL, joinS_nil] <;> omega

theorem first_cut (s : List UInt8) : 47 ∉ s ∨ ∃ a b, s = a ++ 47 :: b ∧ 47 ∉ a := by
  induction s with
  | nil => exact .inl (by simp)
  | cons c r ih =>
    by_cases hc : c = 47
    · exact .inr ⟨[], r, by simp [hc], by simp⟩
    · rcases ih with h | ⟨a, b, h1, h2⟩
      · exact .inl (by simp [h]; exact fun e => hc e.symm)
      · exact .inr ⟨c :: a, b, by simp [h1], by simp [h2]; exact fun e => hc e.symm⟩
theorem last_cut (s : List UInt8) : 47 ∉ s ∨ ∃ a b, s = a ++ 47 :: b ∧ 47 ∉ b := by
  induction s with
  | nil => exact .inl (by simp)
  | cons c r ih =>
    rcases ih with h | ⟨a, b, h1, h2⟩
    · by_cases hc : c = 47
      · exact .inr ⟨[], r, by simp [hc], h⟩
      · exact .inl (by simp [h]; exact fun e => hc e.symm)
    · exact .inr ⟨c :: a, b, by simp [h1], h2⟩
theorem suf_one (l : List UInt8) (a c : UInt8) : [a] <:+ l ++ [c] ↔ a = c := by
  rw [← List.reverse_prefix]; simp
theorem suf_two (l : List UInt8) (a b c : UInt8) : [a, b] <:+ l ++ [c] ↔ b = c ∧ [a] <:+ l := by
  rw [← List.reverse_prefix, ← List.reverse_prefix]
  simp [List.cons_prefix_cons]
/-- What Parse asks of a path's end. -/
theorem dir_eq {s : List UInt8} (h : s ≠ []) : (decide (s = [46]) || Lib.hasSuffix s [47] || Lib.hasSuffix s [47, 46]) = dirP s := by
  have e1 : Lib.hasSuffix s [47] = decide ([47] <:+ s) := by rw [Bool.eq_iff_iff]; simp [Lib.hasSuffix]
  have e2 : Lib.hasSuffix s [47, 46] = decide ([47, 46] <:+ s) := by rw [Bool.eq_iff_iff]; simp [Lib.hasSuffix]
  rw [e1, e2]
  unfold dirP
  rcases last_cut s with h1 | ⟨a, b, rfl, h2⟩
  · have hl : lastP s = s := by unfold lastP; rw [pg_clean h1]; rfl
    have n1 : ¬ [47] <:+ s := fun e => h1 (e.subset (by simp))
    have n2 : ¬ [47, 46] <:+ s := fun e => h1 (e.subset (by simp))
    rw [hl]
    simp [n1, n2, keepP, h]
  · have hl : lastP (a ++ 47 :: b) = b := by unfold lastP; rw [pg_slash, pg_clean h2]; simp
    rw [hl]
    have n0 : a ++ 47 :: b ≠ [46] := fun e => by
      have : (47 : UInt8) ∈ [(46 : UInt8)] := by rw [← e]; simp
      simp at this
    rcases List.eq_nil_or_concat b with rfl | ⟨y, c, rfl⟩
    · have n1 : [47] <:+ a ++ [(47 : UInt8)] := ⟨a, rfl⟩
      simp [n1, keepP]
    · have hc : c ≠ 47 := fun e => h2 (by simp [e])
      have hs : a ++ 47 :: (y ++ [c]) = (a ++ 47 :: y) ++ [c] := by simp
      have n1 : ¬ [47] <:+ a ++ 47 :: (y ++ [c]) := by rw [hs, suf_one]; exact fun e => hc e.symm
      have n2 : [47, 46] <:+ a ++ 47 :: (y ++ [c]) ↔ y ++ [c] = [46] := by
        rw [hs, suf_two]
        rcases List.eq_nil_or_concat y with rfl | ⟨z, d, rfl⟩
        · have : [47] <:+ a ++ [(47 : UInt8)] := ⟨a, rfl⟩
          simp [this]
          exact eq_comm
        · have hd : d ≠ 47 := fun e => h2 (by simp [e])
          have e3 : a ++ 47 :: (z ++ [d]) = (a ++ 47 :: z) ++ [d] := by simp
          simp only [List.concat_eq_append]
          rw [e3, suf_one]
          constructor
          · rintro ⟨_, q⟩; exact absurd q.symm hd
          · intro q
            have := congrArg List.length q
            simp at this
      rw [List.concat_eq_append] at n0 ⊢
      by_cases q : y ++ [c] = [46]
      · simp [keepP, q]
      · have q2 : ¬ [47, 46] <:+ a ++ 47 :: (y ++ [c]) := fun e => q (n2.1 e)
        simp only [n0, n1, q2, keepP]
        simpa using q

/-- A string, by its bytes. -/
def bsL (l : List UInt8) : ByteArray := ⟨l.toArray⟩
def sv (l : List UInt8) : Value := .string (bsL l)
theorem bsL_data (l : List UInt8) : (bsL l).data.toList = l := rfl
theorem bsL_list (l : List UInt8) : (bsL l).toList = l := by rw [Lib.toList_data]; rfl
theorem bsL_size (l : List UInt8) : (bsL l).size = l.length := rfl
theorem bsL_of {S : ByteArray} {l : List UInt8} (h : S.data.toList = l) : S = bsL l := by subst h; rfl
theorem ix_none {s : List UInt8} (h : 47 ∉ s) : Lib.indexByte s 47 = -1 := by
  induction s with
  | nil => rfl
  | cons c r ih =>
    have hc : (c == 47) = false := by simp; exact fun e => h (by simp [e])
    rw [Lib.indexByte, hc, ih (fun e => h (by simp [e]))]
    rfl
theorem ix_some {a b : List UInt8} (h : 47 ∉ a) : Lib.indexByte (a ++ 47 :: b) 47 = a.length := by
  induction a with
  | nil => rfl
  | cons c r ih =>
    have hc : (c == 47) = false := by simp; exact fun e => h (by simp [e])
    have hl : ((r.length : Int) == -1) = false := by simp
    rw [List.cons_append, Lib.indexByte, hc, ih (fun e => h (by simp [e])), hl]
    simp

end Go.Proofs.Ytnmenihahgggmaa
