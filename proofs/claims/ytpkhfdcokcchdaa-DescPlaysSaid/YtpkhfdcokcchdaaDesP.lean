/-
  What clients have open, as a function; and the cells that hold it.
-/
import Derived.Test.YtpkhfdcokcchdaaGr
import Derived.Deep.MidRow
namespace Go.Proofs.Ytpkhfdcokcchdaa
open Go.RowKit

/-- The fields of the entries of a client, one behind the other. -/
def cellT (t : Nat → Int × Int × Int) (i : Nat) : Int := if i % 3 = 0 then (t (i / 3)).1 else if i % 3 = 1 then (t (i / 3)).2.1 else (t (i / 3)).2.2
def rowF (D : Nat → Nat → Int × Int × Int) (n : Nat) : Array Value := (Array.range (n * 48)).map fun i => .int .i64 (cellT (D (i / 48)) (i % 48))
def tabL (t : Nat → Int × Int × Int) : List Value := (List.range 48).map fun i => .int .i64 (cellT t i)
def updD (D : Nat → Nat → Int × Int × Int) (c f : Nat) (v : Int × Int × Int) : Nat → Nat → Int × Int × Int := fun c' f' => if c' = c ∧ f' = f then v else D c' f'
def noneD : Nat → Nat → Int × Int × Int := fun _ _ => (0, 0, 0)

theorem cellT0 (t : Nat → Int × Int × Int) (f : Nat) : cellT t (3 * f) = (t f).1 := by
  unfold cellT
  rw [if_pos (by omega), show 3 * f / 3 = f by omega]
theorem cellT1 (t : Nat → Int × Int × Int) (f : Nat) : cellT t (3 * f + 1) = (t f).2.1 := by
  unfold cellT
  rw [if_neg (by omega), if_pos (by omega), show (3 * f + 1) / 3 = f by omega]
theorem cellT2 (t : Nat → Int × Int × Int) (f : Nat) : cellT t (3 * f + 2) = (t f).2.2 := by
  unfold cellT
  rw [if_neg (by omega), if_neg (by omega), show (3 * f + 2) / 3 = f by omega]
theorem rowF_size (D : Nat → Nat → Int × Int × Int) (n : Nat) : (rowF D n).size = n * 48 := by simp [rowF]
theorem rowF_get (D : Nat → Nat → Int × Int × Int) (n i : Nat) (h : i < n * 48) : (rowF D n)[i]? = some (.int .i64 (cellT (D (i / 48)) (i % 48))) := by
  unfold rowF
  rw [Array.getElem?_map, Array.getElem?_range]
  simp [h]
theorem rowF_at (D : Nat → Nat → Int × Int × Int) (n c j : Nat) (hc : c < n) (hj : j < 48) : (rowF D n)[48 * c + j]? = some (.int .i64 (cellT (D c) j)) := by
  rw [rowF_get D n _ (by omega), show (48 * c + j) / 48 = c by omega, show (48 * c + j) % 48 = j by omega]
theorem tabL_len (t : Nat → Int × Int × Int) : (tabL t).length = 48 := by simp [tabL]
theorem tabL_get (t : Nat → Int × Int × Int) (j : Nat) (h : j < 48) : (tabL t)[j]? = some (.int .i64 (cellT t j)) := by
  unfold tabL
  rw [List.getElem?_map, List.getElem?_range h]
  rfl
theorem rowF_none (n : Nat) : rowF noneD n = Array.replicate (n * 48) (.int .i64 0) := by
  apply Array.ext
  · simp [rowF]
  · intro i h1 h2
    have : cellT (noneD (i / 48)) (i % 48) = 0 := by unfold cellT noneD; split <;> (try split) <;> rfl
    simp [rowF, this]
theorem made48 (n : Nat) (z : Array Value) (hz : z = Array.replicate 48 (.int .i64 0)) : (madeCells z (n * 48)).toList.toArray = rowF noneD n := by
  rw [rowF_none, hz]
  apply Array.ext
  · simp [madeCells]
  · intro i h1 h2
    have : i % 48 < 48 := Nat.mod_lt _ (by omega)
    simp [madeCells, this]
theorem rowF_set3 (D : Nat → Nat → Int × Int × Int) (n c f : Nat) (v : Int × Int × Int) (_hc : c < n) (hf : f < 16) :
    (((rowF D n).setIfInBounds (48 * c + 3 * f) (.int .i64 v.1)).setIfInBounds (48 * c + 3 * f + 1) (.int .i64 v.2.1)).setIfInBounds (48 * c + 3 * f + 2) (.int .i64 v.2.2) = rowF (updD D c f v) n := by
  apply Array.ext
  · simp [rowF]
  · intro i h1 h2
    have hi : i < n * 48 := by simpa [rowF_size] using h2
    have r := rowF_get (updD D c f v) n i hi
    rw [Array.getElem?_eq_getElem h2] at r
    have r0 := rowF_get D n i hi
    rw [Array.getElem?_eq_getElem (by simpa [rowF_size] using hi)] at r0
    rw [Option.some.inj r]
    have hsz : i < (rowF D n).size := by simpa [rowF_size] using hi
    rw [Array.getElem_setIfInBounds (by simpa using hsz), Array.getElem_setIfInBounds (by simpa using hsz), Array.getElem_setIfInBounds hsz]
    have key : cellT (updD D c f v (i / 48)) (i % 48) = if i = 48 * c + 3 * f + 2 then v.2.2 else if i = 48 * c + 3 * f + 1 then v.2.1 else if i = 48 * c + 3 * f then v.1 else cellT (D (i / 48)) (i % 48) := by
      by_cases e : i / 48 = c ∧ i % 48 / 3 = f
      · have : i = 48 * c + 3 * f ∨ i = 48 * c + 3 * f + 1 ∨ i = 48 * c + 3 * f + 2 := by omega
        unfold cellT updD
        rw [if_pos e]
        rcases this with h | h | h
        · rw [if_pos (by omega), if_neg (by omega), if_neg (by omega), if_pos h]
        · rw [if_neg (by omega), if_pos (by omega), if_neg (by omega), if_pos h]
        · rw [if_neg (by omega), if_neg (by omega), if_pos h]
      · have h1 : i ≠ 48 * c + 3 * f := by omega
        have h2 : i ≠ 48 * c + 3 * f + 1 := by omega
        have h3 : i ≠ 48 * c + 3 * f + 2 := by omega
        rw [if_neg h3, if_neg h2, if_neg h1]
        unfold cellT updD
        rw [if_neg e]
    rw [key]
    by_cases h2' : i = 48 * c + 3 * f + 2
    · rw [if_pos h2'.symm, if_pos h2']
    rw [if_neg (fun e => h2' e.symm), if_neg h2']
    by_cases h1' : i = 48 * c + 3 * f + 1
    · rw [if_pos h1'.symm, if_pos h1']
    rw [if_neg (fun e => h1' e.symm), if_neg h1']
    by_cases h0' : i = 48 * c + 3 * f
    · rw [if_pos h0'.symm, if_pos h0']
    rw [if_neg (fun e => h0' e.symm), if_neg h0']
    exact Option.some.inj r0
theorem updD_self (D : Nat → Nat → Int × Int × Int) (c f : Nat) (v : Int × Int × Int) : updD D c f v c f = v := by simp [updD]
theorem updD_ne (D : Nat → Nat → Int × Int × Int) (c f c' f' : Nat) (v : Int × Int × Int) (h : ¬ (c' = c ∧ f' = f)) : updD D c f v c' f' = D c' f' := by simp [updD, h]
theorem rowF_set1 (D : Nat → Nat → Int × Int × Int) (n c f : Nat) (x : Int) (hc : c < n) (hf : f < 16) :
    (rowF D n).setIfInBounds (48 * c + 3 * f + 2) (.int .i64 x) = rowF (updD D c f ((D c f).1, (D c f).2.1, x)) n := by
  rw [← rowF_set3 D n c f _ hc hf]
  congr 1
  have a := rowF_at D n c (3 * f) hc (by omega)
  have b := rowF_at D n c (3 * f + 1) hc (by omega)
  rw [cellT0] at a
  rw [cellT1] at b
  simp only
  have e1 : (rowF D n).setIfInBounds (48 * c + 3 * f) (.int .i64 (D c f).1) = rowF D n := by
    apply Array.ext
    · simp
    · intro i h1 h2
      rw [Array.getElem_setIfInBounds]
      split
      · rename_i e
        subst e
        rw [Array.getElem?_eq_getElem (by simpa using h2)] at a
        exact (Option.some.inj a).symm
      · rfl
  rw [e1]
  apply Array.ext
  · simp
  · intro i h1 h2
    rw [Array.getElem_setIfInBounds]
    split
    · rename_i e
      rw [show 48 * c + (3 * f + 1) = i by omega, Array.getElem?_eq_getElem (by simpa using h1)] at b
      exact Option.some.inj b
    · rfl

/-! ### A client's table in memory -/
section
variable {W : World} {br : Nat} {D : Nat → Nat → Int × Int × Int} {n : Nat} {T : TypeId}
theorem rowF_cell (h : Holds W br (rowF D n) T) {c j : Nat} (hc : c < n) (hj : j < 48) : W.cell? ⟨br, 48 * c + j, none⟩ = some (.int .i64 (cellT (D c) j)) := by
  rw [h.cell, rowF_at D n c j hc hj]
theorem rowF_range (h : Holds W br (rowF D n) T) {c : Nat} (hc : c < n) : W.rangeAt br (48 * c) (tabL (D c)) := by
  intro j v hv
  have hj : j < 48 := by
    have := (List.getElem?_eq_some_iff.1 hv).1
    simpa [tabL_len] using this
  rw [tabL_get _ j hj] at hv
  rw [rowF_cell h hc hj, ← hv]
end

end Go.Proofs.Ytpkhfdcokcchdaa
