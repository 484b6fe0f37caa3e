/-
  What the document's answer for layer 14 makes of truths: Extents, Set, Take.
-/
import Derived.Test.YtpkhfdcokcchdaaAlQ
import Derived.Test.YtpkhfdcokcchdaaAlK
import Derived.Test.YtpkhfdcokcchdaaFrameT
namespace Go.Proofs.Ytpkhfdcokcchdaa
open Go.RowKit

theorem extP_no {m : Nat → Bool} {i : Nat} (h : m i = false) : extP m (i + 1) = extP m i := by
  simp only [extP]; rw [if_neg (by rw [h]; simp)]
theorem extP_new {m : Nat → Bool} {i : Nat} (h : m i = true) (hp : ¬ (0 < i ∧ m (i - 1) = true)) : extP m (i + 1) = extP m i ++ [(i, 1)] := by
  simp only [extP]; rw [if_pos h, if_neg hp]
theorem extP_up {m : Nat → Bool} {i : Nat} (h : m i = true) (h0 : 0 < i) (hp : m (i - 1) = true) : ∃ A p, extP m i = A ++ [p] ∧ extP m (i + 1) = A ++ [(p.1, p.2 + 1)] := by
  obtain ⟨A, p, hl⟩ := extP_ne m i h0 hp
  refine ⟨A, p, hl, ?_⟩
  have e : extP m (i + 1) = bump (extP m i) := by simp only [extP]; rw [if_pos h, if_pos ⟨h0, hp⟩]
  rw [e, hl]
  unfold bump
  simp
theorem cells2_bump (A : List (Int × Int)) (a b c : Int) : (cells2 (A ++ [(a, b)])).set (A.length * 2 + 1) (.int .i64 c) = cells2 (A ++ [(a, c)]) := by
  rw [cells2_append, cells2_append, List.set_append_right _ _ (by rw [cells2_len]; omega), cells2_len, show A.length * 2 + 1 - A.length * 2 = 1 by omega]
  rfl

/-! ### Truths in memory -/
/-- The cells from an address on read as truths. -/
def RdM (w : World) (ao : Option Addr) (N : Nat) (m : Nat → Bool) : Prop :=
  ∀ b, b < N → ∃ k o, ao = some ⟨k, o, none⟩ ∧ k < w.heap.size ∧ w.cell? ⟨k, o + b, none⟩ = some (.bool (m b))
theorem RdM.gr {w w' : World} {ao : Option Addr} {N : Nat} {m : Nat → Bool} {bs : List Nat} (h : RdM w ao N m) (g : Gr bs w w') (hn : ∀ b o, ao = some ⟨b, o, none⟩ → b ∉ bs) : RdM w' ao N m := by
  intro i hi
  obtain ⟨b, o, rfl, h1, h2⟩ := h i hi
  have q := g.block b h1 (hn b o rfl)
  exact ⟨b, o, rfl, Nat.lt_of_lt_of_le h1 g.size, (World.cell?_of_block (a := ⟨b, _, none⟩) q).trans h2⟩
theorem RdM.gr0 {w w' : World} {ao : Option Addr} {N : Nat} {m : Nat → Bool} (h : RdM w ao N m) (g : Gr [] w w') : RdM w' ao N m := h.gr g (by simp)
theorem RdM.below {w w' : World} {ao : Option Addr} {N : Nat} {m : Nat → Bool} (h : RdM w ao N m) (g : Below w.heap.size w w') : RdM w' ao N m := h.gr0 (.ofBelow g)
theorem RdM.at {w : World} {b o : Nat} {N : Nat} {m : Nat → Bool} (h : RdM w (some ⟨b, o, none⟩) N m) {i : Nat} (hi : i < N) : b < w.heap.size ∧ w.cell? ⟨b, o + i, none⟩ = some (.bool (m i)) := by
  obtain ⟨b', o', hb, h1, h2⟩ := h i hi
  injection hb with hb
  injection hb with e1 e2
  subst e1 e2
  exact ⟨h1, h2⟩
theorem RdM.congr {w : World} {ao : Option Addr} {N : Nat} {m m' : Nat → Bool} (h : RdM w ao N m) (hm : ∀ b, b < N → m b = m' b) : RdM w ao N m' := fun b hb => by
  obtain ⟨k, o, h1, h2, h3⟩ := h b hb
  exact ⟨k, o, h1, h2, by rw [← hm b hb]; exact h3⟩
def cellsM (m : Nat → Bool) (N : Nat) : List Value := (List.range N).map fun b => .bool (m b)
theorem cellsM_len (m : Nat → Bool) (N : Nat) : (cellsM m N).length = N := by simp [cellsM]
theorem cellsM_get (m : Nat → Bool) (N i : Nat) (h : i < N) : (cellsM m N)[i]? = some (.bool (m i)) := by simp [cellsM, h]
theorem cellsM_set (m : Nat → Bool) (N i : Nat) (f : Bool) : (cellsM m N).set i (.bool f) = cellsM (fun b => if b = i then f else m b) N := by
  apply List.ext_getElem?
  intro j
  by_cases hj : j < N
  · rw [cellsM_get _ _ _ hj, List.getElem?_set]
    by_cases e : i = j
    · subst e; rw [if_pos rfl, if_pos (by rw [cellsM_len]; exact hj), if_pos rfl]
    · rw [if_neg e, cellsM_get _ _ _ hj, if_neg (fun q => e q.symm)]
  · rw [List.getElem?_eq_none (by rw [List.length_set, cellsM_len]; omega), List.getElem?_eq_none (by rw [cellsM_len]; omega)]
theorem cellsM_congr {m m' : Nat → Bool} {N : Nat} (h : ∀ b, b < N → m b = m' b) : cellsM m N = cellsM m' N := by
  unfold cellsM
  refine List.map_congr_left fun b hb => ?_
  rw [h b (List.mem_range.1 hb)]
theorem own_rdM {w : World} {base : Nat} {e : TypeId} {n N : Nat} {ao : Option Addr} {cap : Nat} {m : Nat → Bool} (h : w.ownsRow base e 1 (.slice ao n cap) n (cellsM m N)) : RdM w ao N m := by
  intro i hi
  have hn : N = n := by have := h.1; rw [cellsM_len] at this; omega
  rcases h.2 with ⟨q, h0⟩ | ⟨g, cap', cur, q, hb, hg, h1, h2, h3, h4⟩
  · omega
  · injection q with q1 q2 q3
    subst q1
    have hc := h.cells (g := g) rfl i _ (cellsM_get m N i hi)
    have hadd : ∀ j, (⟨g, 0, none⟩ : Addr).add j = ⟨g, j, none⟩ := fun j => by unfold Addr.add; split <;> simp_all
    rw [hadd] at hc
    exact ⟨g, 0, rfl, (h.lt g rfl).2, by rw [Nat.zero_add]; exact hc⟩

/-! ### What Set does -/
def setM (m : Nat → Bool) (a n : Nat) (f : Bool) (b : Nat) : Bool := if inR a n b = true then f else m b
theorem setM_zero (m : Nat → Bool) (a : Nat) (f : Bool) (b : Nat) : setM m a 0 f b = m b := by
  unfold setM inR; rw [if_neg (by simp)]
theorem setM_succ (m : Nat → Bool) (a k : Nat) (f : Bool) : (fun b => if b = a + k then f else setM m a k f b) = setM m a (k + 1) f := by
  funext b
  unfold setM inR
  by_cases e : b = a + k
  · subst e; rw [if_pos rfl, if_pos (by simp)]
  · rw [if_neg e]
    have : (decide (a ≤ b) && decide (b < a + (k + 1))) = (decide (a ≤ b) && decide (b < a + k)) := by
      rw [show decide (b < a + (k + 1)) = decide (b < a + k) by rw [decide_eq_decide]; omega]
    rw [this]

/-! ### What Take does -/
theorem fitI_app (A : List (Nat × Nat)) (e : Nat × Nat) (n : Nat) : fitI (A ++ [e]) n = match fitI A n with | some i => some i | none => if n ≤ e.2 then some A.length else none := by
  induction A with
  | nil => simp [fitI]
  | cons x r ih =>
    rw [List.cons_append]
    simp only [fitI]
    by_cases h : n ≤ x.2
    · rw [if_pos h, if_pos h]
    · rw [if_neg h, if_neg h, ih]
      cases fitI r n with
      | some i => rfl
      | none =>
        by_cases h2 : n ≤ e.2
        · simp [h2]
        · simp [h2]
theorem fitZ_step {l : List (Nat × Nat)} {k n : Nat} {e : Nat × Nat} (h : l[k]? = some e) : fitZ (l.take (k + 1)) n = if fitZ (l.take k) n < 0 then (if n ≤ e.2 then (k : Int) else -1) else fitZ (l.take k) n := by
  obtain ⟨h1, h2⟩ := List.getElem?_eq_some_iff.1 h
  rw [List.take_succ_eq_append_getElem h1, h2]
  unfold fitZ
  rw [fitI_app]
  cases fitI (l.take k) n with
  | some i => simp only; rw [if_neg (by omega)]
  | none =>
    by_cases q : n ≤ e.2
    · simp only [if_pos q]
      rw [if_pos (by omega), List.length_take]; omega
    · simp only [if_neg q]
      rw [if_pos (by omega)]
def takeP : List (Nat × Nat) → Nat → List (Nat × Nat)
  | [], _ => []
  | e :: r, n => if n = 0 then [] else (e.1, min e.2 n) :: takeP r (n - min e.2 n)
theorem takeP_zero (l : List (Nat × Nat)) : takeP l 0 = [] := by cases l <;> simp [takeP]
theorem takeP_at {l : List (Nat × Nat)} {k n : Nat} {e : Nat × Nat} (h : l[k]? = some e) (hn : n ≠ 0) : takeP (l.drop k) n = (e.1, min e.2 n) :: takeP (l.drop (k + 1)) (n - min e.2 n) := by
  obtain ⟨h1, h2⟩ := List.getElem?_eq_some_iff.1 h
  rw [List.drop_eq_getElem_cons h1, h2]
  simp only [takeP]
  rw [if_neg hn]
theorem takeP_greedy {l : List (Nat × Nat)} {n : Nat} (hn : 1 ≤ n) (hs : n ≤ sumL l) : takeP l n = (greedy l n).2 := by
  induction l generalizing n with
  | nil => simp [sumL] at hs; omega
  | cons e r ih =>
    simp only [takeP, greedy]
    rw [if_neg (by omega)]
    by_cases c : n ≤ e.2
    · rw [if_pos c, Nat.min_eq_right c, Nat.sub_self, takeP_zero]
    · rw [if_neg c, Nat.min_eq_left (by omega), ih (by omega) (by simp [sumL] at hs; omega)]
theorem takeP_len (l : List (Nat × Nat)) (n : Nat) : (takeP l n).length ≤ l.length := by
  induction l generalizing n with
  | nil => simp [takeP]
  | cons e r ih =>
    simp only [takeP]
    split
    · simp
    · have := ih (n - min e.2 n); simp; omega
/-- What is free when the first pieces are taken. -/
def leftM (m : Nat → Bool) (t : List (Nat × Nat)) (k b : Nat) : Bool := m b && !covB (t.take k) b
theorem leftM_step {m : Nat → Bool} {t : List (Nat × Nat)} {k : Nat} {e : Nat × Nat} (h : t[k]? = some e) : setM (leftM m t k) e.1 e.2 false = leftM m t (k + 1) := by
  obtain ⟨h1, h2⟩ := List.getElem?_eq_some_iff.1 h
  funext b
  unfold setM leftM
  rw [List.take_succ_eq_append_getElem h1, h2, covB_append, covB_cons, covB_nil, Bool.or_false]
  show (if inR e.1 e.2 b = true then false else _) = (m b && !(_ || inR e.1 e.2 b))
  cases inR e.1 e.2 b <;> simp
theorem runs_apart {N : Nat} {t : List (Nat × Nat)} {k : Nat} {e : Nat × Nat} (h : RunsF 0 N t) (he : t[k]? = some e) {b : Nat} (hb : inR e.1 e.2 b = true) : covB (t.take k) b = false := by
  cases q : covB (t.take k) b with
  | false => rfl
  | true =>
    unfold covB at q
    obtain ⟨x, hx, hx2⟩ := List.any_eq_true.1 q
    obtain ⟨j, hj⟩ := List.mem_iff_getElem?.1 hx
    have hjk : j < k := by
      have := (List.getElem?_eq_some_iff.1 hj).1
      simp at this; omega
    rw [List.getElem?_take_of_lt hjk] at hj
    have := ends_lt h hjk hj he
    simp [inR] at hb hx2
    omega

end Go.Proofs.Ytpkhfdcokcchdaa
