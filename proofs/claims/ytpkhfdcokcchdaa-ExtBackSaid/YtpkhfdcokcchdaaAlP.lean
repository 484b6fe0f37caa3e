/-
  Runs of blocks as a list: rising and apart; what they cover; what Use, Give and Take make of them.
-/
import Derived.WalkKit
namespace Go.Proofs.Ytpkhfdcokcchdaa

/-- Runs from lo on, below N, none touching the next. -/
def RunsF (lo N : Nat) : List (Nat × Nat) → Prop
  | [] => True
  | e :: r => lo ≤ e.1 ∧ 1 ≤ e.2 ∧ e.1 + e.2 ≤ N ∧ RunsF (e.1 + e.2 + 1) N r
def covB (l : List (Nat × Nat)) (b : Nat) : Bool := l.any fun e => decide (e.1 ≤ b) && decide (b < e.1 + e.2)
def sumL : List (Nat × Nat) → Nat
  | [] => 0
  | e :: r => e.2 + sumL r
def nextLo : Nat → List (Nat × Nat) → Nat
  | lo, [] => lo
  | _, e :: r => nextLo (e.1 + e.2 + 1) r
/-- The first run that ends behind a block. -/
def fromI : List (Nat × Nat) → Int → Nat
  | [], _ => 0
  | e :: r, b => if b < ((e.1 + e.2 : Nat) : Int) then 0 else fromI r b + 1

theorem RunsF.mono {lo lo' N : Nat} {l : List (Nat × Nat)} (h : RunsF lo N l) (hl : lo' ≤ lo) : RunsF lo' N l := by
  cases l with
  | nil => trivial
  | cons e r => exact ⟨by have := h.1; omega, h.2⟩
theorem RunsF_append {lo N : Nat} {A B : List (Nat × Nat)} : RunsF lo N (A ++ B) ↔ RunsF lo N A ∧ RunsF (nextLo lo A) N B := by
  induction A generalizing lo with
  | nil => simp [RunsF, nextLo]
  | cons e r ih => simp only [List.cons_append, RunsF, nextLo, ih, and_assoc]
theorem nextLo_append (lo : Nat) (A : List (Nat × Nat)) (e : Nat × Nat) : nextLo lo (A ++ [e]) = e.1 + e.2 + 1 := by
  induction A generalizing lo with
  | nil => rfl
  | cons x r ih => simp only [List.cons_append, nextLo, ih]
theorem covB_nil (b : Nat) : covB [] b = false := rfl
theorem covB_cons (e : Nat × Nat) (r : List (Nat × Nat)) (b : Nat) : covB (e :: r) b = ((decide (e.1 ≤ b) && decide (b < e.1 + e.2)) || covB r b) := rfl
theorem covB_append (A B : List (Nat × Nat)) (b : Nat) : covB (A ++ B) b = (covB A b || covB B b) := by simp [covB]
theorem sumL_append (A B : List (Nat × Nat)) : sumL (A ++ B) = sumL A + sumL B := by
  induction A with
  | nil => simp [sumL]
  | cons e r ih => simp only [List.cons_append, sumL, ih]; omega
theorem covB_lo {lo N : Nat} {l : List (Nat × Nat)} (h : RunsF lo N l) {b : Nat} (hb : covB l b = true) : lo ≤ b ∧ b < N := by
  induction l generalizing lo with
  | nil => cases hb
  | cons e r ih =>
    obtain ⟨h1, h2, h3, h4⟩ := h
    rw [covB_cons, Bool.or_eq_true, Bool.and_eq_true, decide_eq_true_eq, decide_eq_true_eq] at hb
    rcases hb with hb | hb
    · omega
    · have := ih h4 hb; omega
theorem covB_false {lo N : Nat} {l : List (Nat × Nat)} (h : RunsF lo N l) {b : Nat} (hb : b < lo) : covB l b = false := by
  cases q : covB l b with
  | false => rfl
  | true => have := covB_lo h q; omega
theorem covB_out {lo N : Nat} {l : List (Nat × Nat)} (h : RunsF lo N l) {b : Nat} (hb : N ≤ b) : covB l b = false := by
  cases q : covB l b with
  | false => rfl
  | true => have := covB_lo h q; omega
/-- What is covered tells the runs. -/
theorem runs_uniq {lo N : Nat} {l l' : List (Nat × Nat)} (h : RunsF lo N l) (h' : RunsF lo N l') (hc : ∀ b, covB l b = covB l' b) : l = l' := by
  induction l generalizing lo l' with
  | nil =>
    cases l' with
    | nil => rfl
    | cons e r =>
      have := hc e.1
      rw [covB_nil, covB_cons] at this
      have h2 := h'.2.1
      simp at this
      omega
  | cons e r ih =>
    cases l' with
    | nil =>
      have := hc e.1
      rw [covB_nil, covB_cons] at this
      have h2 := h.2.1
      simp at this
      omega
    | cons e' r' =>
      obtain ⟨h1, h2, h3, h4⟩ := h
      obtain ⟨h1', h2', h3', h4'⟩ := h'
      have lo1 : RunsF e.1 N (e :: r) := ⟨Nat.le_refl _, h2, h3, h4⟩
      have lo2 : RunsF e'.1 N (e' :: r') := ⟨Nat.le_refl _, h2', h3', h4'⟩
      have c1 : covB (e :: r) e.1 = true := by rw [covB_cons]; simp; omega
      have c2 : covB (e' :: r') e'.1 = true := by rw [covB_cons]; simp; omega
      have g1 := (covB_lo lo2 (by rw [← hc]; exact c1)).1
      have g2 := (covB_lo lo1 (by rw [hc]; exact c2)).1
      have ea : e.1 = e'.1 := by omega
      have en : e.2 = e'.2 := by
        rcases Nat.lt_trichotomy e.2 e'.2 with q | q | q
        · have c3 : covB (e' :: r') (e.1 + e.2) = true := by rw [covB_cons]; simp; omega
          rw [← hc, covB_cons, covB_false h4 (by omega)] at c3
          simp at c3
        · exact q
        · have c3 : covB (e :: r) (e.1 + e'.2) = true := by rw [covB_cons]; simp; omega
          rw [hc, covB_cons, covB_false h4' (by omega)] at c3
          simp at c3
          omega
      have ee : e = e' := Prod.ext ea en
      subst ee
      congr 1
      refine ih h4 h4' fun b => ?_
      by_cases hb : b < e.1 + e.2 + 1
      · rw [covB_false h4 hb, covB_false h4' hb]
      · have := hc b
        rw [covB_cons, covB_cons, decide_eq_false (p := b < e.1 + e.2) (by omega)] at this
        simpa using this

/-! ### Places -/
theorem fromI_le (l : List (Nat × Nat)) (b : Int) : fromI l b ≤ l.length := by
  induction l with
  | nil => simp [fromI]
  | cons e r ih => unfold fromI; split <;> simp <;> omega
/-- Where a search ends. -/
theorem fromI_is {l : List (Nat × Nat)} {b : Int} {i : Nat} (hi : i ≤ l.length) (h1 : ∀ j e, j < i → l[j]? = some e → ((e.1 + e.2 : Nat) : Int) ≤ b) (h2 : ∀ e, l[i]? = some e → b < ((e.1 + e.2 : Nat) : Int)) : i = fromI l b := by
  induction l generalizing i with
  | nil => simp at hi; simp [fromI, hi]
  | cons e r ih =>
    unfold fromI
    cases i with
    | zero =>
      have := h2 e rfl
      rw [if_pos this]
    | succ i =>
      have := h1 0 e (by omega) rfl
      rw [if_neg (by omega), ← ih (i := i) (by simpa using hi) (fun j e' hj hl => h1 (j + 1) e' (by omega) (by simpa using hl)) (fun e' hl => h2 e' (by simpa using hl))]
theorem fromI_before {l : List (Nat × Nat)} {b : Int} {j : Nat} {e : Nat × Nat} (hj : j < fromI l b) (hl : l[j]? = some e) : ((e.1 + e.2 : Nat) : Int) ≤ b := by
  induction l generalizing j with
  | nil => cases hl
  | cons x r ih =>
    unfold fromI at hj
    split at hj
    · omega
    · rename_i hx
      cases j with
      | zero => simp at hl; subst hl; omega
      | succ j => exact ih (j := j) (by omega) (by simpa using hl)
theorem fromI_at {l : List (Nat × Nat)} {b : Int} {e : Nat × Nat} (hl : l[fromI l b]? = some e) : b < ((e.1 + e.2 : Nat) : Int) := by
  induction l with
  | nil => cases hl
  | cons x r ih =>
    unfold fromI at hl
    split at hl
    · rename_i hx; simp at hl; subst hl; exact hx
    · exact ih (by simpa using hl)
/-- Ends rise. -/
theorem ends_lt {lo N : Nat} {l : List (Nat × Nat)} (h : RunsF lo N l) {i j : Nat} {x y : Nat × Nat} (hij : i < j) (hx : l[i]? = some x) (hy : l[j]? = some y) : x.1 + x.2 < y.1 := by
  induction l generalizing lo i j with
  | nil => cases hx
  | cons e r ih =>
    obtain ⟨h1, h2, h3, h4⟩ := h
    cases j with
    | zero => omega
    | succ j =>
      cases i with
      | zero =>
        simp at hx hy
        subst hx
        have : covB r y.1 = true := by
          have hm := List.mem_of_getElem? hy
          have hl : 1 ≤ y.2 := by
            clear ih
            revert h4 hm
            generalize e.1 + e.2 + 1 = q
            intro h4 hm
            clear hy
            induction r generalizing q with
            | nil => cases hm
            | cons z r ih =>
              rcases List.mem_cons.1 hm with e1 | e1
              · subst e1; exact h4.2.1
              · exact ih _ h4.2.2.2 e1
          rw [covB, List.any_eq_true]
          exact ⟨y, hm, by simp; omega⟩
        have := covB_lo h4 this
        omega
      | succ i => exact ih (i := i) (j := j) h4 (by omega) (by simpa using hx) (by simpa using hy)
theorem runs_mem {lo N : Nat} {l : List (Nat × Nat)} (h : RunsF lo N l) {e : Nat × Nat} (he : e ∈ l) : lo ≤ e.1 ∧ 1 ≤ e.2 ∧ e.1 + e.2 ≤ N := by
  induction l generalizing lo with
  | nil => cases he
  | cons x r ih =>
    rcases List.mem_cons.1 he with q | q
    · subst q; exact ⟨h.1, h.2.1, h.2.2.1⟩
    · have := ih h.2.2.2 q
      have := h.1
      omega
theorem fromI_zero {e : Nat × Nat} {b : Int} (r : List (Nat × Nat)) (h : b < ((e.1 + e.2 : Nat) : Int)) : fromI (e :: r) b = 0 := by unfold fromI; rw [if_pos h]
theorem fromI_succ {e : Nat × Nat} {b : Int} (r : List (Nat × Nat)) (h : ¬ b < ((e.1 + e.2 : Nat) : Int)) : fromI (e :: r) b = fromI r b + 1 := by
  conv => lhs; unfold fromI
  rw [if_neg h]
/-- A block is covered just if the run that a search finds begins ahead of it. -/
theorem has_from {lo N : Nat} {l : List (Nat × Nat)} (h : RunsF lo N l) (b : Nat) : covB l b = match l[fromI l (b : Int)]? with | some e => decide (e.1 ≤ b) | none => false := by
  induction l generalizing lo with
  | nil => rfl
  | cons e r ih =>
    obtain ⟨h1, h2, h3, h4⟩ := h
    rw [covB_cons]
    by_cases hb : (b : Int) < ((e.1 + e.2 : Nat) : Int)
    · rw [fromI_zero r hb]
      simp only [List.getElem?_cons_zero]
      by_cases q : e.1 ≤ b
      · simp [q]; left; omega
      · rw [covB_false h4 (by omega)]; simp [q]
    · rw [fromI_succ r hb, ih h4]
      simp only [List.getElem?_cons_succ]
      rw [decide_eq_false (p := b < e.1 + e.2) (by omega)]
      simp

/-! ### Use -/
def inR (at_ n b : Nat) : Bool := decide (at_ ≤ b) && decide (b < at_ + n)
/-- What is left of a run. -/
def pieces (e : Nat × Nat) (at_ n : Nat) : List (Nat × Nat) := (if e.1 < at_ then [(e.1, at_ - e.1)] else []) ++ (if at_ + n < e.1 + e.2 then [(at_ + n, e.1 + e.2 - (at_ + n))] else [])
def useL : List (Nat × Nat) → Nat → Nat → Option (List (Nat × Nat))
  | [], _, _ => none
  | e :: r, a, n => if a < e.1 + e.2 then (if e.1 ≤ a ∧ a + n ≤ e.1 + e.2 then some (pieces e a n ++ r) else none) else (useL r a n).map (e :: ·)
theorem useL_from (l : List (Nat × Nat)) (a n : Nat) :
    useL l a n = match l[fromI l (a : Int)]? with
      | none => none
      | some e => if e.1 ≤ a ∧ a + n ≤ e.1 + e.2 then some (l.take (fromI l (a : Int)) ++ pieces e a n ++ l.drop (fromI l (a : Int) + 1)) else none := by
  induction l with
  | nil => rfl
  | cons e r ih =>
    unfold useL
    by_cases h : a < e.1 + e.2
    · rw [if_pos h, fromI_zero r (by omega)]
      simp
    · rw [if_neg h, fromI_succ r (by omega), ih]
      simp only [List.getElem?_cons_succ]
      cases q : r[fromI r (a : Int)]? with
      | none => rfl
      | some x =>
        simp only
        split
        · simp
        · rfl
theorem pieces_runs {lo N : Nat} {e : Nat × Nat} {r : List (Nat × Nat)} {a n : Nat} (h : RunsF lo N (e :: r)) (hn : 1 ≤ n) (h1 : e.1 ≤ a) (h2 : a + n ≤ e.1 + e.2) : RunsF lo N (pieces e a n ++ r) := by
  obtain ⟨q1, q2, q3, q4⟩ := h
  unfold pieces
  by_cases c1 : e.1 < a <;> by_cases c2 : a + n < e.1 + e.2
  · rw [if_pos c1, if_pos c2]
    refine ⟨q1, by simp only; omega, by simp only; omega, by simp only; omega, by simp only; omega, by simp only; omega, q4.mono (by simp only; omega)⟩
  · rw [if_pos c1, if_neg c2]
    exact ⟨q1, by simp only; omega, by simp only; omega, q4.mono (by simp only; omega)⟩
  · rw [if_neg c1, if_pos c2]
    exact ⟨by simp only; omega, by simp only; omega, by simp only; omega, q4.mono (by simp only; omega)⟩
  · rw [if_neg c1, if_neg c2]
    exact q4.mono (by omega)
theorem pieces_cov {e : Nat × Nat} {a n : Nat} (hn : 1 ≤ n) (h1 : e.1 ≤ a) (h2 : a + n ≤ e.1 + e.2) (b : Nat) : covB (pieces e a n) b = (inR e.1 e.2 b && !inR a n b) := by
  rw [Bool.eq_iff_iff]
  unfold pieces inR covB
  by_cases c1 : e.1 < a <;> by_cases c2 : a + n < e.1 + e.2 <;> simp [c1, c2] <;> omega
theorem pieces_sum {e : Nat × Nat} {a n : Nat} (h1 : e.1 ≤ a) (h2 : a + n ≤ e.1 + e.2) : sumL (pieces e a n) + n = e.2 := by
  unfold pieces
  by_cases c1 : e.1 < a <;> by_cases c2 : a + n < e.1 + e.2 <;> simp [c1, c2, sumL] <;> omega
theorem useL_some {lo N : Nat} {l l' : List (Nat × Nat)} {a n : Nat} (h : RunsF lo N l) (hn : 1 ≤ n) (hu : useL l a n = some l') :
    RunsF lo N l' ∧ (∀ b, covB l' b = (covB l b && !inR a n b)) ∧ (∀ b, inR a n b = true → covB l b = true) ∧ sumL l' + n = sumL l := by
  induction l generalizing lo l' with
  | nil => cases hu
  | cons e r ih =>
    unfold useL at hu
    by_cases c : a < e.1 + e.2
    · rw [if_pos c] at hu
      by_cases d : e.1 ≤ a ∧ a + n ≤ e.1 + e.2
      · rw [if_pos d] at hu
        injection hu with hu
        subst hu
        refine ⟨pieces_runs h hn d.1 d.2, fun b => ?_, fun b hb => ?_, ?_⟩
        · rw [covB_append, pieces_cov hn d.1 d.2, covB_cons]
          have hf := h.2.2.2
          cases q : covB r b with
          | false => simp [inR]
          | true =>
            have := covB_lo hf q
            have : inR a n b = false := by simp [inR]; omega
            simp [this]
        · rw [covB_cons]
          simp [inR] at hb ⊢
          left; omega
        · rw [sumL_append]
          have := pieces_sum d.1 d.2
          simp only [sumL]
          omega
      · rw [if_neg d] at hu; cases hu
    · rw [if_neg c] at hu
      obtain ⟨r', hr, rfl⟩ := Option.map_eq_some_iff.1 hu
      obtain ⟨i1, i2, i3, i4⟩ := ih h.2.2.2 hr
      refine ⟨⟨h.1, h.2.1, h.2.2.1, i1⟩, fun b => ?_, fun b hb => ?_, ?_⟩
      · rw [covB_cons, covB_cons, i2]
        cases q : inR a n b with
        | false => simp
        | true =>
          have : decide (b < e.1 + e.2) = false := by simp [inR] at q ⊢; omega
          simp [this]
      · rw [covB_cons, i3 b hb]; simp
      · simp only [sumL]; omega
theorem useL_none {lo N : Nat} {l : List (Nat × Nat)} {a n : Nat} (h : RunsF lo N l) (hn : 1 ≤ n) (hu : useL l a n = none) : ∃ b, inR a n b = true ∧ covB l b = false := by
  induction l generalizing lo with
  | nil => exact ⟨a, by simp [inR]; omega, rfl⟩
  | cons e r ih =>
    unfold useL at hu
    by_cases c : a < e.1 + e.2
    · rw [if_pos c] at hu
      by_cases d : e.1 ≤ a ∧ a + n ≤ e.1 + e.2
      · rw [if_pos d] at hu; cases hu
      · by_cases d1 : e.1 ≤ a
        · refine ⟨e.1 + e.2, by simp [inR]; omega, ?_⟩
          rw [covB_cons, covB_false h.2.2.2 (by omega)]
          simp
        · refine ⟨a, by simp [inR]; omega, ?_⟩
          rw [covB_cons, covB_false h.2.2.2 (by omega)]
          simp; omega
    · rw [if_neg c] at hu
      obtain ⟨b, hb, hf⟩ := ih h.2.2.2 (by simpa using hu)
      refine ⟨b, hb, ?_⟩
      rw [covB_cons, hf]
      simp [inR] at hb ⊢
      omega

/-! ### Give -/
/-- What stands ahead of the place: its last run if it touches; what stands behind: its first one if it touches. -/
def mergeA (A : List (Nat × Nat)) (a : Nat) : List (Nat × Nat) × Nat := match A.getLast? with
  | some p => if p.1 + p.2 = a then (A.dropLast, p.1) else (A, a)
  | none => (A, a)
def mergeB (B : List (Nat × Nat)) (z : Nat) : List (Nat × Nat) × Nat := match B with
  | q :: B' => if q.1 = z then (B', z + q.2) else (B, z)
  | [] => ([], z)
def giveL (l : List (Nat × Nat)) (a n : Nat) : Option (List (Nat × Nat)) :=
  let i := fromI l (a : Int)
  match l[i]? with
  | some e => if e.1 < a + n then none else some ((mergeA (l.take i) a).1 ++ ((mergeA (l.take i) a).2, (mergeB (l.drop i) (a + n)).2 - (mergeA (l.take i) a).2) :: (mergeB (l.drop i) (a + n)).1)
  | none => some ((mergeA (l.take i) a).1 ++ [((mergeA (l.take i) a).2, a + n - (mergeA (l.take i) a).2)])
theorem mergeA_runs {N : Nat} {A : List (Nat × Nat)} {a : Nat} (h : RunsF 0 N A) (hA : ∀ e ∈ A, e.1 + e.2 ≤ a) :
    RunsF 0 N (mergeA A a).1 ∧ nextLo 0 (mergeA A a).1 ≤ (mergeA A a).2 ∧ (mergeA A a).2 ≤ a ∧ (∀ b, (covB (mergeA A a).1 b || inR (mergeA A a).2 (a - (mergeA A a).2) b) = covB A b) ∧ sumL (mergeA A a).1 + (a - (mergeA A a).2) = sumL A := by
  unfold mergeA
  cases q : A.getLast? with
  | none =>
    rw [List.getLast?_eq_none_iff] at q
    subst q
    refine ⟨trivial, by simp [nextLo], Nat.le_refl _, fun b => by simp [covB, inR], by simp [sumL]⟩
  | some p =>
    obtain ⟨A', rfl⟩ := List.getLast?_eq_some_iff.1 q
    have hp := hA p (by simp)
    obtain ⟨g1, g2, g3, g4, _⟩ := RunsF_append.1 h
    simp only
    split
    · rename_i e
      simp only [List.dropLast_concat]
      refine ⟨g1, g2, by omega, fun b => ?_, ?_⟩
      · rw [covB_append, covB_cons, covB_nil]
        have : a - p.1 = p.2 := by omega
        rw [this]
        simp [inR]
      · rw [sumL_append]; simp only [sumL]; omega
    · rename_i e
      refine ⟨h, by rw [nextLo_append]; omega, Nat.le_refl _, fun b => ?_, by simp⟩
      simp [inR]
      intro h1 h2
      omega
theorem mergeB_runs {N lo : Nat} {B : List (Nat × Nat)} {z : Nat} (h : RunsF lo N B) (hB : ∀ e ∈ B.head?, z ≤ e.1) (hz : z ≤ N) :
    RunsF ((mergeB B z).2 + 1) N (mergeB B z).1 ∧ z ≤ (mergeB B z).2 ∧ (mergeB B z).2 ≤ N ∧ (∀ b, (covB (mergeB B z).1 b || inR z ((mergeB B z).2 - z) b) = covB B b) ∧ sumL (mergeB B z).1 + ((mergeB B z).2 - z) = sumL B := by
  cases B with
  | nil => exact ⟨trivial, Nat.le_refl _, hz, fun b => by simp [mergeB, covB, inR], by simp [mergeB, sumL]⟩
  | cons q B' =>
    have hq := hB q rfl
    obtain ⟨h1, h2, h3, h4⟩ := h
    unfold mergeB
    simp only
    split
    · rename_i e
      simp only
      refine ⟨h4.mono (by omega), by omega, by omega, fun b => ?_, ?_⟩
      · rw [covB_cons, ← e]
        have : q.1 + q.2 - q.1 = q.2 := by omega
        rw [this]
        simp [inR, Bool.or_comm]
      · simp only [sumL]; omega
    · rename_i e
      refine ⟨⟨by omega, h2, h3, h4⟩, Nat.le_refl _, hz, fun b => by simp [inR]; omega, by simp⟩
theorem inR_three (a m n b x z : Nat) (h1 : x ≤ a) (h2 : a + n ≤ z) (hm : m = z - x) : inR x m b = (inR x (a - x) b || inR a n b || inR (a + n) (z - (a + n)) b) := by
  subst hm
  rw [Bool.eq_iff_iff]
  simp [inR]
  omega
theorem giveL_some {N : Nat} {l l' : List (Nat × Nat)} {a n : Nat} (h : RunsF 0 N l) (hn : 1 ≤ n) (hN : a + n ≤ N) (hu : giveL l a n = some l') :
    RunsF 0 N l' ∧ (∀ b, covB l' b = (covB l b || inR a n b)) ∧ (∀ b, inR a n b = true → covB l b = false) ∧ sumL l' = sumL l + n := by
  have hi := fromI_le l (a : Int)
  have hb := @fromI_before l (a : Int)
  have ha := @fromI_at l (a : Int)
  unfold giveL at hu
  simp only at hu
  generalize fromI l (a : Int) = i at *
  have hl : l.take i ++ l.drop i = l := List.take_append_drop i l
  have hr : RunsF 0 N (l.take i) ∧ RunsF (nextLo 0 (l.take i)) N (l.drop i) := by rw [← RunsF_append, hl]; exact h
  have hA : ∀ e ∈ l.take i, e.1 + e.2 ≤ a := by
    intro e he
    obtain ⟨j, hj⟩ := List.getElem?_of_mem he
    have hj' : j < i := by
      have := (List.getElem?_eq_some_iff.1 hj).1
      simp at this; omega
    rw [List.getElem?_take_of_lt hj'] at hj
    have := hb hj' hj
    omega
  obtain ⟨a1, a2, a3, a4, a5⟩ := mergeA_runs hr.1 hA
  have hd0 : ∀ e, (l.drop i).head? = some e → l[i]? = some e := fun e he => by
    rw [List.head?_drop] at he; exact he
  have main : (∀ e, l[i]? = some e → a + n ≤ e.1) → l' = (mergeA (l.take i) a).1 ++ ((mergeA (l.take i) a).2, (mergeB (l.drop i) (a + n)).2 - (mergeA (l.take i) a).2) :: (mergeB (l.drop i) (a + n)).1 →
      RunsF 0 N l' ∧ (∀ b, covB l' b = (covB l b || inR a n b)) ∧ (∀ b, inR a n b = true → covB l b = false) ∧ sumL l' = sumL l + n := by
    intro hq e
    obtain ⟨b1, b2, b3, b4, b5⟩ := mergeB_runs (z := a + n) hr.2 (fun e he => hq e (hd0 e he)) hN
    generalize mergeA (l.take i) a = MA at *
    generalize mergeB (l.drop i) (a + n) = MB at *
    subst e
    refine ⟨?_, fun b => ?_, fun b hbn => ?_, ?_⟩
    · rw [RunsF_append]
      exact ⟨a1, a2, by simp only; omega, by simp only; omega, b1.mono (by simp only; omega)⟩
    · have e1 : covB l b = (covB (l.take i) b || covB (l.drop i) b) := by rw [← covB_append, hl]
      rw [e1, ← a4 b, ← b4 b, covB_append, covB_cons]
      have := inR_three a (MB.2 - MA.2) n b MA.2 MB.2 a3 b2 rfl
      unfold inR at this ⊢
      simp only
      rw [this]
      generalize covB MA.1 b = p
      generalize covB MB.1 b = q
      generalize (decide (MA.2 ≤ b) && decide (b < MA.2 + (a - MA.2))) = r
      generalize (decide (a ≤ b) && decide (b < a + n)) = s
      generalize (decide (a + n ≤ b) && decide (b < a + n + (MB.2 - (a + n)))) = t
      cases p <;> cases q <;> cases r <;> cases s <;> cases t <;> rfl
    · have e1 : covB l b = (covB (l.take i) b || covB (l.drop i) b) := by rw [← covB_append, hl]
      rw [e1]
      have hbn' : a ≤ b ∧ b < a + n := by simpa [inR] using hbn
      have p1 : covB (l.take i) b = false := by
        rw [covB, List.any_eq_false]
        intro e he
        have := hA e he
        simp; omega
      have p2 : covB (l.drop i) b = false := by
        cases hd : l.drop i with
        | nil => rfl
        | cons q B' =>
          have hq' := hq q (hd0 q (by rw [hd]; rfl))
          have r2 := hr.2
          rw [hd] at r2
          exact covB_false (lo := a + n) (N := N) (l := q :: B') ⟨hq', r2.2.1, r2.2.2.1, r2.2.2.2⟩ hbn'.2
      simp [p1, p2]
    · have e1 : sumL l = sumL (l.take i) + sumL (l.drop i) := by rw [← sumL_append, hl]
      rw [sumL_append]
      simp only [sumL]
      omega
  cases q : l[i]? with
  | some e =>
    rw [q] at hu
    simp only at hu
    by_cases c : e.1 < a + n
    · rw [if_pos c] at hu; cases hu
    · rw [if_neg c] at hu
      injection hu with hu
      exact main (fun e' he => by rw [q] at he; injection he with he; subst he; omega) hu.symm
  | none =>
    rw [q] at hu
    simp only at hu
    injection hu with hu
    have hlen : l.length ≤ i := List.getElem?_eq_none_iff.1 q
    have hd : l.drop i = [] := List.drop_eq_nil_of_le hlen
    refine main (fun e' he => by rw [q] at he; cases he) ?_
    rw [← hu, hd]
    rfl
theorem giveL_none {N : Nat} {l : List (Nat × Nat)} {a n : Nat} (h : RunsF 0 N l) (hn : 1 ≤ n) (hu : giveL l a n = none) : ∃ b, inR a n b = true ∧ covB l b = true := by
  have ha := @fromI_at l (a : Int)
  unfold giveL at hu
  simp only at hu
  cases q : l[fromI l (a : Int)]? with
  | none => rw [q] at hu; cases hu
  | some e =>
    rw [q] at hu
    simp only at hu
    have hm := runs_mem h (List.mem_of_getElem? q)
    have := ha q
    by_cases c : e.1 < a + n
    · refine ⟨max a e.1, by simp [inR]; omega, ?_⟩
      rw [covB, List.any_eq_true]
      exact ⟨e, List.mem_of_getElem? q, by simp; omega⟩
    · rw [if_neg c] at hu; cases hu

/-! ### Take -/
/-- The first run that has room. -/
def fitI : List (Nat × Nat) → Nat → Option Nat
  | [], _ => none
  | e :: r, n => if n ≤ e.2 then some 0 else (fitI r n).map (· + 1)
/-- The first runs, one behind the other: what stays, and what is taken. -/
def greedy : List (Nat × Nat) → Nat → List (Nat × Nat) × List (Nat × Nat)
  | [], _ => ([], [])
  | e :: r, n => if n ≤ e.2 then ((if n < e.2 then [(e.1 + n, e.2 - n)] else []) ++ r, [(e.1, n)]) else ((greedy r (n - e.2)).1, e :: (greedy r (n - e.2)).2)
def takeL (l : List (Nat × Nat)) (n : Nat) : List (Nat × Nat) × List (Nat × Nat) :=
  match fitI l n with
  | some i => ((useL l (l.getD i (0, 0)).1 n).getD [], [((l.getD i (0, 0)).1, n)])
  | none => greedy l n
/-- What is taken, and what stays. -/
structure TakeOk (N : Nat) (l : List (Nat × Nat)) (n : Nat) (l' t : List (Nat × Nat)) : Prop where
  runs : RunsF 0 N l'
  taken : RunsF 0 N t
  cov : ∀ b, covB l b = (covB l' b || covB t b)
  apart : ∀ b, covB t b = true → covB l' b = false
  sum : sumL t = n
  left : sumL l' + n = sumL l
theorem fitI_some {l : List (Nat × Nat)} {n i : Nat} (h : fitI l n = some i) : ∃ e, l[i]? = some e ∧ n ≤ e.2 ∧ ∀ j x, j < i → l[j]? = some x → x.2 < n := by
  induction l generalizing i with
  | nil => cases h
  | cons e r ih =>
    unfold fitI at h
    split at h
    · injection h with h; subst h
      exact ⟨e, rfl, by assumption, fun j x hj => by omega⟩
    · rename_i hn
      obtain ⟨k, hk, rfl⟩ := Option.map_eq_some_iff.1 h
      obtain ⟨x, h1, h2, h3⟩ := ih hk
      refine ⟨x, by simpa using h1, h2, fun j y hj hy => ?_⟩
      cases j with
      | zero => simp at hy; subst hy; omega
      | succ j => exact h3 j y (by omega) (by simpa using hy)
theorem fitI_none {l : List (Nat × Nat)} {n : Nat} (h : fitI l n = none) : ∀ e ∈ l, e.2 < n := by
  induction l with
  | nil => intro e he; cases he
  | cons x r ih =>
    unfold fitI at h
    split at h
    · cases h
    · intro e he
      rcases List.mem_cons.1 he with q | q
      · subst q; omega
      · exact ih (by simpa using h) e q
theorem greedy_ok {lo N : Nat} {l : List (Nat × Nat)} {n : Nat} (h : RunsF lo N l) (hn : 1 ≤ n) (hs : n ≤ sumL l) :
    RunsF lo N (greedy l n).1 ∧ RunsF lo N (greedy l n).2 ∧ (∀ b, covB l b = (covB (greedy l n).1 b || covB (greedy l n).2 b)) ∧ (∀ b, covB (greedy l n).2 b = true → covB (greedy l n).1 b = false) ∧ sumL (greedy l n).2 = n ∧ sumL (greedy l n).1 + n = sumL l := by
  induction l generalizing lo n with
  | nil => simp [sumL] at hs; omega
  | cons e r ih =>
    obtain ⟨h1, h2, h3, h4⟩ := h
    unfold greedy
    by_cases c : n ≤ e.2
    · rw [if_pos c]
      by_cases d : n < e.2
      · rw [if_pos d]
        refine ⟨⟨by simp only; omega, by simp only; omega, by simp only; omega, h4.mono (by simp only; omega)⟩, ⟨h1, hn, by simp only; omega, trivial⟩, fun b => ?_, fun b hb => ?_, by simp [sumL], by simp [sumL]; omega⟩
        · simp only [covB_append, covB_cons, covB_nil]
          cases covB r b <;> (rw [Bool.eq_iff_iff]; simp; try omega)
        · simp only [covB_cons, covB_nil] at hb
          simp at hb
          simp only [covB_append, covB_cons, covB_nil]
          rw [covB_false h4 (by omega)]
          simp
          omega
      · rw [if_neg d]
        have : e.2 = n := by omega
        refine ⟨h4.mono (by omega), ⟨h1, hn, by simp only; omega, trivial⟩, fun b => ?_, fun b hb => ?_, by simp [sumL], by simp [sumL]; omega⟩
        · simp only [List.nil_append, covB_cons, covB_nil, this, Bool.or_false]
          rw [Bool.or_comm]
        · simp only [covB_cons, covB_nil] at hb
          simp at hb
          rw [List.nil_append]
          exact covB_false h4 (by omega)
    · rw [if_neg c]
      simp only [sumL] at hs
      obtain ⟨i1, i2, i3, i4, i5, i6⟩ := ih (n := n - e.2) h4 (by omega) (by omega)
      refine ⟨i1.mono (by omega), ⟨h1, h2, h3, i2⟩, fun b => ?_, fun b hb => ?_, by simp only [sumL]; omega, by simp only [sumL]; omega⟩
      · rw [covB_cons, covB_cons, i3 b]
        cases covB (greedy r (n - e.2)).1 b <;> simp
      · rw [covB_cons, Bool.or_eq_true] at hb
        rcases hb with hb | hb
        · exact covB_false i1 (by simp at hb; omega)
        · exact i4 b hb
theorem takeL_ok {N : Nat} {l : List (Nat × Nat)} {n : Nat} (h : RunsF 0 N l) (hn : 1 ≤ n) (hs : n ≤ sumL l) : TakeOk N l n (takeL l n).1 (takeL l n).2 := by
  unfold takeL
  cases q : fitI l n with
  | none =>
    simp only
    obtain ⟨i1, i2, i3, i4, i5, i6⟩ := greedy_ok h hn hs
    exact ⟨i1, i2, i3, i4, i5, i6⟩
  | some i =>
    simp only
    obtain ⟨e, he, hle, _⟩ := fitI_some q
    have hg : l.getD i (0, 0) = e := by simp [List.getD, he]
    rw [hg]
    have hm := runs_mem h (List.mem_of_getElem? he)
    cases u : useL l e.1 n with
    | none =>
      obtain ⟨b, hb, hf⟩ := useL_none h hn u
      have : covB l b = true := by
        rw [covB, List.any_eq_true]
        refine ⟨e, List.mem_of_getElem? he, ?_⟩
        simp [inR] at hb ⊢; omega
      rw [this] at hf; cases hf
    | some l' =>
      simp only [Option.getD_some]
      obtain ⟨u1, u2, u3, u4⟩ := useL_some h hn u
      have ct : ∀ b, covB [(e.1, n)] b = inR e.1 n b := fun b => by rw [covB_cons, covB_nil, Bool.or_false]; rfl
      refine ⟨u1, ⟨Nat.zero_le _, hn, by simp only; omega, trivial⟩, fun b => ?_, fun b hb => ?_, by simp [sumL], u4⟩
      · rw [ct, u2]
        cases q2 : inR e.1 n b with
        | false => simp
        | true => simp [u3 b q2]
      · rw [ct] at hb
        rw [u2, hb]; simp
theorem sumL_zero {lo N : Nat} {l : List (Nat × Nat)} (h : RunsF lo N l) (hs : sumL l = 0) : l = [] := by
  cases l with
  | nil => rfl
  | cons e r => have := h.2.1; simp [sumL] at hs; omega
theorem sumL_le {lo N : Nat} {l : List (Nat × Nat)} (h : RunsF lo N l) : sumL l + lo ≤ max N lo := by
  induction l generalizing lo with
  | nil => simp [sumL]; omega
  | cons e r ih =>
    obtain ⟨h1, h2, h3, h4⟩ := h
    have := ih h4
    simp only [sumL]; omega
theorem take_all {N : Nat} {l l' t : List (Nat × Nat)} (h : RunsF 0 N l) (ho : TakeOk N l (sumL l) l' t) : l' = [] ∧ t = l := by
  have h0 : l' = [] := sumL_zero ho.runs (by have := ho.left; omega)
  refine ⟨h0, runs_uniq ho.taken h fun b => ?_⟩
  rw [ho.cov b, h0, covB_nil, Bool.false_or]
theorem len_le {lo N : Nat} {l : List (Nat × Nat)} (h : RunsF lo N l) : l.length ≤ sumL l := by
  induction l generalizing lo with
  | nil => simp
  | cons e r ih =>
    have := ih h.2.2.2
    have := h.2.1
    simp only [sumL, List.length_cons]; omega

/-- What is taken, given back one by one. -/
theorem give_back {N : Nat} {l l' t cur : List (Nat × Nat)} {n k : Nat} {e : Nat × Nat} (ho : TakeOk N l n l' t) (hr : RunsF 0 N cur) (hc : ∀ b, covB cur b = (covB l' b || covB (t.take k) b)) (he : t[k]? = some e) :
    ∃ c', giveL cur e.1 e.2 = some c' ∧ RunsF 0 N c' ∧ (∀ b, covB c' b = (covB l' b || covB (t.take (k + 1)) b)) := by
  have hm := runs_mem ho.taken (List.mem_of_getElem? he)
  cases q : giveL cur e.1 e.2 with
  | none =>
    obtain ⟨b, hb, hf⟩ := giveL_none hr hm.2.1 q
    have ht : covB t b = true := by
      rw [covB, List.any_eq_true]
      refine ⟨e, List.mem_of_getElem? he, ?_⟩
      simp [inR] at hb ⊢; omega
    rw [hc, ho.apart b ht, Bool.false_or, covB, List.any_eq_true] at hf
    obtain ⟨x, hx, hxb⟩ := hf
    obtain ⟨j, hj⟩ := List.getElem?_of_mem hx
    have hjk : j < k := by
      have := (List.getElem?_eq_some_iff.1 hj).1
      simp at this; omega
    rw [List.getElem?_take_of_lt hjk] at hj
    have := ends_lt ho.taken hjk hj he
    simp [inR] at hb hxb
    omega
  | some c' =>
    obtain ⟨g1, g2, g3, g4⟩ := giveL_some hr hm.2.1 hm.2.2 q
    refine ⟨c', rfl, g1, fun b => ?_⟩
    have hlt := (List.getElem?_eq_some_iff.1 he)
    rw [g2, hc, List.take_succ_eq_append_getElem hlt.1, covB_append, hlt.2, covB_cons, covB_nil, Bool.or_false, Bool.or_assoc]
    rfl
theorem given_back {N : Nat} {l l' t cur : List (Nat × Nat)} {n : Nat} (ho : TakeOk N l n l' t) (h : RunsF 0 N l) (hr : RunsF 0 N cur) (hc : ∀ b, covB cur b = (covB l' b || covB (t.take t.length) b)) : cur = l := by
  refine runs_uniq hr h fun b => ?_
  rw [hc, List.take_length, ho.cov b]

end Go.Proofs.Ytpkhfdcokcchdaa
