/-
  MgX: RgP, RgJ.
-/
import Derived.Test.YtdgcninmpcmdcaaGreatPure
import Derived.Test.YtdgcninmpcmdcaaGreatRgI
import Derived.Test.YtdgcninmpcmdcaaGreatMgV

/-
  Layer 7, pure: how a region stands behind so many moves; the counts of RingEven (by the kernel, for all plans that the law can make).
-/
namespace Go.Proofs.YtdgcninmpcmdcaaGreat

/-- The slot of line i, of l lines, behind j moves. -/
def slotN (l j i : Nat) : Nat := if (i + j / (l + 1) % l) % l < l - j % (l + 1) then (i + j / (l + 1) % l) % l else (i + j / (l + 1) % l) % l + 1
/-- The moves ahead of write n; behind it. -/
def befN (psi n : Nat) : Nat := if n = 0 then 0 else (n - 1) / psi
def incN (f : List Nat) (k : Nat) : List Nat := f.set k (f.getD k 0 + 1)
/-- The moves into each slot, behind n writes. -/
def mvdN (l psi : Nat) : Nat → List Nat
  | 0 => List.replicate (l + 1) 0
  | n + 1 => if befN psi n = n / psi then mvdN l psi n else incN (mvdN l psi n) (l - befN psi n % (l + 1))
def stepStay (l psi n : Nat) (st : List Nat) : List Nat := (List.range l).map fun i => if slotN l (n / psi) i = slotN l (befN psi n) i then st.getD i 0 + 1 else 1
/-- How long each line has stayed, behind n writes. -/
def stayN (l psi : Nat) : Nat → List Nat
  | 0 => List.replicate l 0
  | n + 1 => stepStay l psi n (stayN l psi n)
/-- Both at once, for the kernel: n writes more from (m, mv, st) on; is all as it should be? -/
def evenFrom (l psi : Nat) : Nat → Nat → List Nat → List Nat → Bool
  | 0, _, _, _ => true
  | k + 1, n, mv, st =>
    let mv2 := if befN psi n = n / psi then mv else incN mv (l - befN psi n % (l + 1))
    let st2 := stepStay l psi n st
    st2.all (fun x => decide (x ≤ (l + 1) * psi)) && (mv2.all fun x => mv2.all fun y => decide (x ≤ y + 1)) && evenFrom l psi k (n + 1) mv2 st2
theorem evenFrom_all (l psi : Nat) : ∀ k n, evenFrom l psi k n (mvdN l psi n) (stayN l psi n) = true → ∀ m, n < m → m ≤ n + k → (∀ x ∈ stayN l psi m, x ≤ (l + 1) * psi) ∧ ∀ x ∈ mvdN l psi m, ∀ y ∈ mvdN l psi m, x ≤ y + 1
  | 0, n, _, m, h1, h2 => by omega
  | k + 1, n, h, m, h1, h2 => by
    rw [evenFrom] at h
    simp only [Bool.and_eq_true] at h
    obtain ⟨⟨a, b⟩, c⟩ := h
    by_cases e : m = n + 1
    · subst e
      refine ⟨fun x hx => ?_, fun x hx y hy => ?_⟩
      · simpa using List.all_eq_true.1 a x hx
      · have := List.all_eq_true.1 (List.all_eq_true.1 b x hx) y hy
        simpa using this
    · exact evenFrom_all l psi k (n + 1) c m (by omega) (by omega)
theorem even_check : ((List.range 5).all fun l => (List.range 4).all fun q => evenFrom (l + 1) (q + 1) 120 0 (List.replicate (l + 2) 0) (List.replicate (l + 1) 0)) = true := by decide +kernel
theorem even_all {l psi n : Nat} (h1 : 1 ≤ l) (h2 : l ≤ 5) (h3 : 1 ≤ psi) (h4 : psi ≤ 4) (h5 : n ≤ 120) (h0 : 0 < n) : (∀ x ∈ stayN l psi n, x ≤ (l + 1) * psi) ∧ ∀ x ∈ mvdN l psi n, ∀ y ∈ mvdN l psi n, x ≤ y + 1 := by
  have h := List.all_eq_true.1 (List.all_eq_true.1 even_check (l - 1) (List.mem_range.2 (by omega))) (psi - 1) (List.mem_range.2 (by omega))
  rw [show l - 1 + 1 = l by omega, show psi - 1 + 1 = psi by omega, show l - 1 + 2 = l + 1 by omega] at h
  exact evenFrom_all l psi 120 0 h n h0 (by omega)
end Go.Proofs.YtdgcninmpcmdcaaGreat

/-
  RingEven: the plan; what the numbers are behind n writes.
-/
namespace Go.Proofs.YtdgcninmpcmdcaaGreat
open Go.RowKit
set_option linter.unusedVariables false

def smallR (x0 x1 x2 x3 : Int) : PlanR := ⟨mx x0 % 2, (1 + mx x1 % 5).toNat, mx x2 % 9, 1 + mx x3 % 4⟩
def sinceN (psi n : Nat) : Nat := if n = 0 then 0 else (n - 1) % psi + 1
theorem bef_step (psi n : Nat) (h1 : 1 ≤ psi) :
    (psi ≤ sinceN psi n → befN psi n + 1 = n / psi ∧ n % psi + 1 = 1) ∧ (sinceN psi n < psi → befN psi n = n / psi ∧ sinceN psi n + 1 = n % psi + 1) ∧ befN psi (n + 1) = n / psi ∧ sinceN psi (n + 1) = n % psi + 1 := by
  have e1 : befN psi (n + 1) = n / psi := by unfold befN; rw [if_neg (by omega), show n + 1 - 1 = n by omega]
  have e2 : sinceN psi (n + 1) = n % psi + 1 := by unfold sinceN; rw [if_neg (by omega), show n + 1 - 1 = n by omega]
  refine ⟨fun h => ?_, fun h => ?_, e1, e2⟩
  · by_cases c : n = 0
    · subst c
      have : sinceN psi 0 = 0 := rfl
      omega
    · have f1 : befN psi n = (n - 1) / psi := by unfold befN; rw [if_neg c]
      have f2 : sinceN psi n = (n - 1) % psi + 1 := by unfold sinceN; rw [if_neg c]
      rw [f2] at h
      obtain ⟨a, b⟩ := div_wrap (n - 1) psi (by omega) (by omega)
      rw [show n - 1 + 1 = n by omega] at a b
      rw [f1]
      exact ⟨a.symm, by omega⟩
  · by_cases c : n = 0
    · subst c
      have f1 : befN psi 0 = 0 := rfl
      have f2 : sinceN psi 0 = 0 := rfl
      rw [f1, f2, Nat.zero_div, Nat.zero_mod]
      exact ⟨rfl, rfl⟩
    · have f1 : befN psi n = (n - 1) / psi := by unfold befN; rw [if_neg c]
      have f2 : sinceN psi n = (n - 1) % psi + 1 := by unfold sinceN; rw [if_neg c]
      rw [f2] at h
      obtain ⟨a, b⟩ := div_next (n - 1) psi (by omega) (by omega)
      rw [show n - 1 + 1 = n by omega] at a b
      rw [f1, f2]
      exact ⟨a.symm, by omega⟩
theorem slotJ_N (P : PlanR) (j i : Nat) (h1 : 1 ≤ P.l) : slotJ P j i = ((slotN P.l j i : Nat) : Int) := by
  unfold slotJ slotI slotN sAt gAt
  have e : ((i : Int) + ((j / (P.l + 1) % P.l : Nat) : Int)) % (P.l : Int) = (((i + j / (P.l + 1) % P.l) % P.l : Nat) : Int) := by
    rw [← Int.natCast_add, Int.natCast_emod]
  rw [e]
  have h2 := Nat.mod_lt j (show 0 < P.l + 1 by omega)
  by_cases c : (i + j / (P.l + 1) % P.l) % P.l < P.l - j % (P.l + 1)
  · rw [if_pos c, if_pos (by omega)]
  · rw [if_neg c, if_neg (by omega)]
    omega
theorem gAt_N (l j : Nat) : gAt l j = ((l - j % (l + 1) : Nat) : Int) := by
  have h2 := Nat.mod_lt j (show 0 < l + 1 by omega)
  unfold gAt
  omega
def rowL (xs : List Nat) : Array Value := (xs.map fun x : Nat => Value.int .i64 (x : Int)).toArray
theorem rowL_get {xs : List Nat} {i x : Nat} (h : xs[i]? = some x) : (rowL xs)[i]? = some (.int .i64 (x : Int)) := by
  unfold rowL
  rw [List.getElem?_toArray, List.getElem?_map, h]
  rfl
theorem rowL_set (xs : List Nat) (i x : Nat) : (rowL xs).setIfInBounds i (.int .i64 (x : Int)) = rowL (xs.set i x) := by
  unfold rowL
  rw [List.setIfInBounds_toArray, List.map_set]
theorem rowL_zero (m : Nat) : rowOf (fun _ => Value.int .i64 0) m = rowL (List.replicate m 0) := by
  unfold rowL
  rw [List.map_replicate]
  apply Array.ext
  · simp [rowOf]
  · intro i h1 h2
    simp [rowOf]
theorem mvdN_len (l psi : Nat) : ∀ n, (mvdN l psi n).length = l + 1
  | 0 => by simp [mvdN]
  | n + 1 => by
    rw [mvdN]
    split
    · exact mvdN_len l psi n
    · unfold incN; rw [List.length_set]; exact mvdN_len l psi n
theorem stayN_len (l psi : Nat) : ∀ n, (stayN l psi n).length = l
  | 0 => by simp [stayN]
  | n + 1 => by rw [stayN]; unfold stepStay; simp
end Go.Proofs.YtdgcninmpcmdcaaGreat
