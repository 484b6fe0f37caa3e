/-
  Layer 15: runs joined, without the program.
-/
import Derived.Test.YtpkhfdcokcchdabExP
namespace Go.Proofs.Ytpkhfdcokcchdab

theorem mrg_fst (a b c : Int × Int) (h : b.1 = c.1) : mrg a b = mrg a c := by unfold mrg; rw [h]
theorem joinP_take {l : List (Int × Int)} {k : Nat} {e : Int × Int} (h : l[k]? = some e) : joinP (l.take (k + 1)) = addR (joinP (l.take k)) e := by
  obtain ⟨h1, h2⟩ := List.getElem?_eq_some_iff.1 h
  rw [List.take_succ_eq_append_getElem h1, h2]
  unfold joinP
  rw [List.foldl_append]
  rfl
theorem join_take_ok {l : List (Int × Int)} {B : Int} (hb : ∀ e ∈ l, -1 ≤ e.1 ∧ e.1 ≤ B ∧ 1 ≤ e.2) (k : Nat) (hk : k ≤ l.length) : (∀ p ∈ joinP (l.take k), -1 ≤ p.1 ∧ p.1 ≤ B ∧ 1 ≤ p.2) ∧ sumZ (joinP (l.take k)) = sumZ (l.take k) := by
  induction k with
  | zero => simp [joinP, sumZ]
  | succ k ih =>
    obtain ⟨i1, i2⟩ := ih (by omega)
    have hx := List.getElem?_eq_getElem (show k < l.length by omega)
    have hbx := hb _ (List.mem_of_getElem? hx)
    rw [joinP_take hx, sumZ_take hx]
    rcases List.eq_nil_or_concat (joinP (l.take k)) with h | ⟨A, p, h⟩
    · rw [h] at i1 i2 ⊢
      rw [addR_nil]
      simp only [sumZ] at i2 ⊢
      exact ⟨fun q hq => by simp at hq; subst hq; exact hbx, by omega⟩
    · rw [List.concat_eq_append] at h
      rw [h] at i1 i2 ⊢
      rw [addR_snoc]
      rw [sumZ_append] at i2
      simp only [sumZ] at i2
      have hp := i1 p (by simp)
      split
      · refine ⟨fun q hq => ?_, ?_⟩
        · rcases List.mem_append.1 hq with z | z
          · exact i1 q (by simp [z])
          · simp at z; subst z; exact ⟨hp.1, hp.2.1, by simp only; omega⟩
        · rw [sumZ_append]; simp only [sumZ]; omega
      · refine ⟨fun q hq => ?_, ?_⟩
        · rcases List.mem_append.1 hq with z | z
          · exact i1 q z
          · simp at z; subst z; exact hbx
        · rw [sumZ_append, sumZ_append]; simp only [sumZ]; omega
theorem addR_cases (acc : List (Int × Int)) (e : Int × Int) : (acc = [] ∧ addR acc e = [e]) ∨ ∃ A p, acc = A ++ [p] ∧ ((mrg p e = true ∧ addR acc e = A ++ [(p.1, p.2 + e.2)]) ∨ (mrg p e = false ∧ addR acc e = A ++ [p] ++ [e])) := by
  rcases List.eq_nil_or_concat acc with q | ⟨A, p, q⟩
  · exact .inl ⟨q, by rw [q]; rfl⟩
  · rw [List.concat_eq_append] at q
    refine .inr ⟨A, p, q, ?_⟩
    rw [q, addR_snoc]
    cases h : mrg p e with
    | true => exact .inl ⟨rfl, rfl⟩
    | false => exact .inr ⟨rfl, rfl⟩
theorem apart_add {acc : List (Int × Int)} (e : Int × Int) (h : apartP acc = true) : apartP (addR acc e) = true := by
  rcases addR_cases acc e with ⟨_, q⟩ | ⟨A, p, ha, ⟨m, q⟩ | ⟨m, q⟩⟩
  · rw [q]; simp [apartP]
  · rw [q]
    rw [ha] at h
    rcases List.eq_nil_or_concat A with z | ⟨B, b, z⟩
    · rw [z]; simp [apartP]
    · rw [List.concat_eq_append] at z
      rw [z] at h ⊢
      rw [apart_snoc] at h ⊢
      rw [mrg_fst b (p.1, p.2 + e.2) p rfl]
      exact h
  · rw [q, apart_snoc, m]
    rw [ha] at h
    rw [h]; rfl
theorem apart_fold (l : List (Int × Int)) : ∀ acc, apartP acc = true → apartP (l.foldl addR acc) = true := by
  induction l with
  | nil => intro acc h; exact h
  | cons e r ih => intro acc h; exact ih _ (apart_add e h)
theorem apart_join (l : List (Int × Int)) : apartP (joinP l) = true := apart_fold l [] (by simp [apartP])
theorem len_add (acc : List (Int × Int)) (e : Int × Int) : (addR acc e).length ≤ acc.length + 1 := by
  rcases addR_cases acc e with ⟨_, q⟩ | ⟨A, p, ha, ⟨m, q⟩ | ⟨m, q⟩⟩
  · rw [q]; simp
  · rw [q, ha]; simp
  · rw [q, ha]; simp
theorem len_fold (l : List (Int × Int)) : ∀ acc : List (Int × Int), (l.foldl addR acc).length ≤ acc.length + l.length := by
  induction l with
  | nil => intro acc; simp
  | cons e r ih =>
    intro acc
    have h1 := ih (addR acc e)
    have h2 := len_add acc e
    rw [List.foldl_cons, List.length_cons]
    omega
theorem blkR_mem {e : Int × Int} {x : Int} (h : x ∈ blkR e) : x = -1 ∨ (e.1 ≤ x ∧ x < e.1 + e.2) := by
  unfold blkR at h
  obtain ⟨k, hk, rfl⟩ := List.mem_map.1 h
  have := List.mem_range.1 hk
  split
  · exact .inl rfl
  · exact .inr (by omega)

end Go.Proofs.Ytpkhfdcokcchdab
