/-
  Cycle walking: an injective map of [0, M) into itself comes back below m from every place below m; and its inverse walks back.
-/
import Derived.Test.YtdpkjbjnjkoeaaaReg
namespace Go.Proofs.Ytdpkjbjnjkoeaaa

theorem pigeon : ∀ (M : Nat) (h : Nat → Nat), (∀ i, i ≤ M → h i < M) → ∃ i j, i < j ∧ j ≤ M ∧ h i = h j := by
  intro M
  induction M with
  | zero => intro h hh; exact absurd (hh 0 (Nat.le_refl _)) (by omega)
  | succ M ih =>
    intro h hh
    by_cases c : ∃ i, i ≤ M ∧ h i = h (M + 1)
    · obtain ⟨i, hi, he⟩ := c
      exact ⟨i, M + 1, by omega, by omega, he⟩
    · have hne : ∀ i, i ≤ M → h i ≠ h (M + 1) := fun i hi he => c ⟨i, hi, he⟩
      obtain ⟨i, j, hij, hj, he⟩ := ih (fun i => if h i = M then h (M + 1) else h i) (by
        intro i hi
        have h1 := hh i (by omega)
        have h2 := hh (M + 1) (by omega)
        have h3 := hne i hi
        show (if h i = M then h (M + 1) else h i) < M
        by_cases e : h i = M
        · rw [if_pos e]; omega
        · rw [if_neg e]; omega)
      refine ⟨i, j, hij, by omega, ?_⟩
      have e1 := hne i (by omega)
      have e2 := hne j hj
      have he' : (if h i = M then h (M + 1) else h i) = (if h j = M then h (M + 1) else h j) := he
      by_cases a : h i = M
      · by_cases b : h j = M
        · omega
        · rw [if_pos a, if_neg b] at he'; exact absurd he'.symm e2
      · by_cases b : h j = M
        · rw [if_neg a, if_pos b] at he'; exact absurd he' e1
        · rwa [if_neg a, if_neg b] at he'

def iter (f : Nat → Nat) : Nat → Nat → Nat
  | 0, x => x
  | t + 1, x => f (iter f t x)
theorem iter_lt {f : Nat → Nat} {M : Nat} (hf : ∀ x, x < M → f x < M) (t x : Nat) (hx : x < M) : iter f t x < M := by
  induction t with
  | zero => exact hx
  | succ t ih => exact hf _ ih
theorem iter_add (f : Nat → Nat) (s t x : Nat) : iter f (s + t) x = iter f s (iter f t x) := by
  induction s with
  | zero => simp [iter]
  | succ s ih => rw [Nat.succ_add]; simp only [iter]; rw [ih]
theorem iter_inj {f : Nat → Nat} {M : Nat} (hf : ∀ x, x < M → f x < M) (hi : ∀ x y, x < M → y < M → f x = f y → x = y) (t x y : Nat) (hx : x < M) (hy : y < M) (h : iter f t x = iter f t y) : x = y := by
  induction t with
  | zero => exact h
  | succ t ih => exact ih (hi _ _ (iter_lt hf t x hx) (iter_lt hf t y hy) h)
theorem comes_back {f : Nat → Nat} {M : Nat} (hf : ∀ x, x < M → f x < M) (hi : ∀ x y, x < M → y < M → f x = f y → x = y) (x : Nat) (hx : x < M) : ∃ d, 1 ≤ d ∧ d ≤ M ∧ iter f d x = x := by
  obtain ⟨i, j, hij, hj, he⟩ := pigeon M (fun t => iter f t x) (fun t _ => iter_lt hf t x hx)
  refine ⟨j - i, by omega, by omega, ?_⟩
  have e : iter f i x = iter f i (iter f (j - i) x) := by
    rw [← iter_add, show i + (j - i) = j by omega]; exact he
  exact (iter_inj hf hi i _ _ hx (iter_lt hf _ x hx) e).symm
/-- The first return below m: its number of turns. -/
theorem first_back {f : Nat → Nat} {M m : Nat} (hf : ∀ x, x < M → f x < M) (hi : ∀ x y, x < M → y < M → f x = f y → x = y) (x : Nat) (hx : x < m) (hm : m ≤ M) :
    ∃ d, 1 ≤ d ∧ d ≤ M ∧ iter f d x < m ∧ ∀ s, 1 ≤ s → s < d → m ≤ iter f s x := by
  obtain ⟨d, h1, h2, h3⟩ := comes_back hf hi x (by omega)
  have key : ∀ n, n ≤ M → (∃ d, 1 ≤ d ∧ d ≤ n ∧ iter f d x < m) → ∃ d, 1 ≤ d ∧ d ≤ M ∧ iter f d x < m ∧ ∀ s, 1 ≤ s → s < d → m ≤ iter f s x := by
    intro n
    induction n with
    | zero => intro _ ⟨d, a, b, _⟩; omega
    | succ n ih =>
      intro hn ⟨d, a, b, c⟩
      by_cases e : ∃ d, 1 ≤ d ∧ d ≤ n ∧ iter f d x < m
      · exact ih (by omega) e
      · refine ⟨d, a, by omega, c, fun s hs1 hs2 => ?_⟩
        by_cases g : iter f s x < m
        · exact absurd ⟨s, hs1, by omega, g⟩ e
        · omega
  exact key M (Nat.le_refl _) ⟨d, h1, h2, by rw [h3]; exact hx⟩
/-- The inverse walks the same way back. -/
theorem back_iter {f g : Nat → Nat} {M : Nat} (hf : ∀ x, x < M → f x < M) (hg : ∀ x, x < M → g (f x) = x) (d s x : Nat) (hs : s ≤ d) (hx : x < M) : iter g s (iter f d x) = iter f (d - s) x := by
  induction s with
  | zero => rfl
  | succ s ih =>
    simp only [iter]
    rw [ih (by omega), show d - s = (d - (s + 1)) + 1 by omega]
    simp only [iter]
    exact hg _ (iter_lt hf _ x hx)

end Go.Proofs.Ytdpkjbjnjkoeaaa
