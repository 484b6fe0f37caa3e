/-
  The document's list of truths and its runs.
-/
import Derived.Test.YtpkhfdcokcchdaaAlP
namespace Go.Proofs.Ytpkhfdcokcchdaa

/-- One more at the end of the last run. -/
def bump (l : List (Nat × Nat)) : List (Nat × Nat) := match l.getLast? with
  | some p => l.dropLast ++ [(p.1, p.2 + 1)]
  | none => []
def extP (m : Nat → Bool) : Nat → List (Nat × Nat)
  | 0 => []
  | k + 1 => if m k = true then (if 0 < k ∧ m (k - 1) = true then bump (extP m k) else extP m k ++ [(k, 1)]) else extP m k
theorem RunsF.up {lo N M : Nat} {l : List (Nat × Nat)} (h : RunsF lo N l) (hM : N ≤ M) : RunsF lo M l := by
  induction l generalizing lo with
  | nil => trivial
  | cons e r ih => exact ⟨h.1, h.2.1, by have := h.2.2.1; omega, ih h.2.2.2⟩
theorem nextLo_le {lo N : Nat} {l : List (Nat × Nat)} (h : RunsF lo N l) (hl : lo ≤ N + 1) : nextLo lo l ≤ N + 1 := by
  induction l generalizing lo with
  | nil => exact hl
  | cons e r ih => exact ih h.2.2.2 (by have := h.2.2.1; omega)
/-- A run that ends at the very end is the last one. -/
theorem last_run {lo k : Nat} {l : List (Nat × Nat)} (h : RunsF lo k l) (hk : 0 < k) (hc : covB l (k - 1) = true) : ∃ A p, l = A ++ [p] ∧ p.1 + p.2 = k := by
  induction l generalizing lo with
  | nil => cases hc
  | cons e r ih =>
    obtain ⟨h1, h2, h3, h4⟩ := h
    rw [covB_cons, Bool.or_eq_true] at hc
    rcases hc with hc | hc
    · simp at hc
      have : e.1 + e.2 = k := by omega
      have hr : r = [] := by
        cases r with
        | nil => rfl
        | cons y s => have := h4.1; have := h4.2.1; have := h4.2.2.1; omega
      subst hr
      exact ⟨[], e, rfl, this⟩
    · obtain ⟨A, p, rfl, hp⟩ := ih h4 hc
      exact ⟨e :: A, p, rfl, hp⟩
theorem extP_ok (m : Nat → Bool) (k : Nat) : RunsF 0 k (extP m k) ∧ ∀ b, covB (extP m k) b = (decide (b < k) && m b) := by
  induction k with
  | zero => exact ⟨trivial, fun b => by simp [extP, covB]⟩
  | succ k ih =>
    obtain ⟨i1, i2⟩ := ih
    unfold extP
    by_cases hm : m k = true
    · rw [if_pos hm]
      by_cases hp : 0 < k ∧ m (k - 1) = true
      · rw [if_pos hp]
        obtain ⟨A, p, hl, hpe⟩ := last_run i1 hp.1 (by rw [i2]; simp [hp.2]; omega)
        rw [hl] at i1 i2 ⊢
        obtain ⟨r1, r2, r3, r4, _⟩ := RunsF_append.1 i1
        have hb : bump (A ++ [p]) = A ++ [(p.1, p.2 + 1)] := by unfold bump; simp
        rw [hb]
        refine ⟨RunsF_append.2 ⟨r1.up (by omega), r2, by simp only; omega, by simp only; omega, trivial⟩, fun b => ?_⟩
        have := i2 b
        rw [covB_append, covB_cons, covB_nil, Bool.or_false] at this ⊢
        by_cases e : b = k
        · subst e
          have q : (decide (p.1 ≤ b) && decide (b < p.1 + (p.2 + 1))) = true := by simp; omega
          simp only
          rw [q]; simp [hm]
        · have q1 : decide (b < p.1 + (p.2 + 1)) = decide (b < p.1 + p.2) := by
            rw [decide_eq_decide]; omega
          have q2 : decide (b < k + 1) = decide (b < k) := by rw [decide_eq_decide]; omega
          simp only
          rw [q1, q2]; exact this
      · rw [if_neg hp]
        refine ⟨RunsF_append.2 ⟨i1.up (by omega), ?_, by simp, by simp, trivial⟩, fun b => ?_⟩
        · have hc : k = 0 ∨ covB (extP m k) (k - 1) = false := by
            by_cases h0 : k = 0
            · exact .inl h0
            · right
              rw [i2]
              have : m (k - 1) = false := by
                cases q : m (k - 1) with
                | false => rfl
                | true => exact absurd ⟨by omega, q⟩ hp
              rw [this]; simp
          rcases hc with hc | hc
          · subst hc; simp [extP, nextLo]
          · -- all runs end ahead of k
            have key : ∀ (l : List (Nat × Nat)) lo, RunsF lo k l → lo ≤ k → covB l (k - 1) = false → nextLo lo l ≤ k := by
              intro l
              induction l with
              | nil => intro lo _ hl _; exact hl
              | cons e r ih2 =>
                intro lo h hl hcv
                rw [covB_cons, Bool.or_eq_false_iff] at hcv
                have h3 := h.2.2.1
                have h2 := h.2.1
                refine ih2 _ h.2.2.2 ?_ hcv.2
                have := hcv.1
                simp at this
                omega
            exact key _ 0 i1 (by omega) hc
        · rw [covB_append, covB_cons, covB_nil, Bool.or_false, i2]
          by_cases e : b = k
          · subst e; simp [hm]
          · have q2 : decide (b < k + 1) = decide (b < k) := by rw [decide_eq_decide]; omega
            rw [q2, Bool.eq_iff_iff]
            simp
            omega
    · rw [if_neg hm]
      refine ⟨i1.up (by omega), fun b => ?_⟩
      rw [i2]
      by_cases e : b = k
      · subst e; simp [hm]
      · have q2 : decide (b < k + 1) = decide (b < k) := by rw [decide_eq_decide]; omega
        rw [q2]
theorem extP_is {N : Nat} {l : List (Nat × Nat)} {m : Nat → Bool} (h : RunsF 0 N l) (hc : ∀ b, b < N → covB l b = m b) : l = extP m N := by
  obtain ⟨e1, e2⟩ := extP_ok m N
  refine runs_uniq h e1 fun b => ?_
  rw [e2]
  by_cases q : b < N
  · rw [hc b q]; simp [q]
  · rw [covB_out h (by omega)]; simp [q]
theorem extP_ne (m : Nat → Bool) (k : Nat) (hk : 0 < k) (h : m (k - 1) = true) : ∃ A p, extP m k = A ++ [p] := by
  obtain ⟨e1, e2⟩ := extP_ok m k
  obtain ⟨A, p, hl, _⟩ := last_run e1 hk (by rw [e2]; simp [h]; omega)
  exact ⟨A, p, hl⟩
theorem extP_len (m : Nat → Bool) (k : Nat) : (extP m k).length ≤ k := by
  obtain ⟨e1, _⟩ := extP_ok m k
  have a := len_le e1
  have b := sumL_le e1
  omega

end Go.Proofs.Ytpkhfdcokcchdaa
