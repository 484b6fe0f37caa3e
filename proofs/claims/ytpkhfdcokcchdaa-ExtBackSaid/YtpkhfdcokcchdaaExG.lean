/-
  Layer 15: a list cut in two.
-/
import Derived.Test.YtpkhfdcokcchdaaExB
namespace Go.Proofs.Ytpkhfdcokcchdaa
open Go.RowKit

def firstP : List (Int × Int) → Int → List (Int × Int)
  | [], _ => []
  | e :: r, n => (if 0 < min n e.2 then [(e.1, min n e.2)] else []) ++ firstP r (n - min n e.2)
def restP : List (Int × Int) → Int → List (Int × Int)
  | [], _ => []
  | e :: r, n => (if min n e.2 < e.2 then [(spotP e (min n e.2), e.2 - min n e.2)] else []) ++ restP r (n - min n e.2)
theorem spotP_zero (e : Int × Int) : spotP e 0 = e.1 := by
  unfold spotP; split
  · rename_i h; rw [h]
  · omega
theorem firstP_zero {l : List (Int × Int)} (h : ∀ e ∈ l, 1 ≤ e.2) : firstP l 0 = [] := by
  induction l with
  | nil => rfl
  | cons e r ih =>
    have he := h e (by simp)
    simp only [firstP]
    rw [show min 0 e.2 = 0 by omega, if_neg (by omega), Int.sub_zero, ih (fun x hx => h x (by simp [hx]))]
    rfl
theorem restP_zero {l : List (Int × Int)} (h : ∀ e ∈ l, 1 ≤ e.2) : restP l 0 = l := by
  induction l with
  | nil => rfl
  | cons e r ih =>
    have he := h e (by simp)
    simp only [restP]
    rw [show min 0 e.2 = 0 by omega, if_pos (by omega), Int.sub_zero, Int.sub_zero, spotP_zero, ih (fun x hx => h x (by simp [hx]))]
    rfl
theorem firstP_big (e : Int × Int) (r : List (Int × Int)) (n : Int) (h : e.2 ≤ n) (he : 1 ≤ e.2) : firstP (e :: r) n = e :: firstP r (n - e.2) := by
  simp only [firstP]
  rw [show min n e.2 = e.2 by omega, if_pos (by omega)]
  rfl
theorem restP_big (e : Int × Int) (r : List (Int × Int)) (n : Int) (h : e.2 ≤ n) : restP (e :: r) n = restP r (n - e.2) := by
  simp only [restP]
  rw [show min n e.2 = e.2 by omega, if_neg (by omega)]
  rfl
theorem firstP_small (e : Int × Int) (r : List (Int × Int)) (n : Int) (h : n < e.2) (h0 : 0 ≤ n) (hr : ∀ e ∈ r, 1 ≤ e.2) : firstP (e :: r) n = if 0 < n then [(e.1, n)] else [] := by
  simp only [firstP]
  rw [show min n e.2 = n by omega, Int.sub_self, firstP_zero hr, List.append_nil]
theorem restP_small (e : Int × Int) (r : List (Int × Int)) (n : Int) (h : n < e.2) (hr : ∀ e ∈ r, 1 ≤ e.2) : restP (e :: r) n = (spotP e n, e.2 - n) :: r := by
  simp only [restP]
  rw [show min n e.2 = n by omega, if_pos h, Int.sub_self, restP_zero hr]
  rfl
theorem blkR_take (e : Int × Int) (n : Int) (h0 : 0 ≤ n) (h : n ≤ e.2) : blkR (e.1, n) = (blkR e).take n.toNat := by
  unfold blkR
  rw [← List.map_take, List.take_range, show min n.toNat e.2.toNat = n.toNat by omega]
theorem blkR_drop (e : Int × Int) (n : Int) (h0 : 0 ≤ n) (h : n ≤ e.2) (ha : -1 ≤ e.1) : blkR (spotP e n, e.2 - n) = (blkR e).drop n.toNat := by
  apply List.ext_getElem?
  intro i
  unfold blkR spotP
  rw [List.getElem?_map, List.getElem?_drop, List.getElem?_map]
  by_cases hi : i < (e.2 - n).toNat
  · rw [List.getElem?_range hi, List.getElem?_range (by omega)]
    simp only [Option.map_some]
    congr 1
    by_cases he : e.1 = -1
    · simp [he]
    · rw [if_neg he, if_neg he, if_neg (by omega)]
      push_cast
      omega
  · have h1 : (List.range (e.2 - n).toNat)[i]? = none := List.getElem?_eq_none (by rw [List.length_range]; omega)
    have h2 : (List.range e.2.toNat)[n.toNat + i]? = none := List.getElem?_eq_none (by rw [List.length_range]; omega)
    rw [h1, h2]
    rfl
/-- The two parts have all blocks. -/
theorem split_blk {l : List (Int × Int)} {n : Int} (h0 : 0 ≤ n) (h : ∀ e ∈ l, -1 ≤ e.1 ∧ 1 ≤ e.2) : blk (firstP l n) = (blk l).take n.toNat ∧ blk (restP l n) = (blk l).drop n.toNat := by
  induction l generalizing n with
  | nil => simp [firstP, restP, blk]
  | cons e r ih =>
    have he := h e (by simp)
    have hr : ∀ e ∈ r, -1 ≤ e.1 ∧ 1 ≤ e.2 := fun x hx => h x (by simp [hx])
    rw [blk_cons]
    have hl : (blkR e).length = e.2.toNat := blkR_len e
    by_cases c : e.2 ≤ n
    · rw [firstP_big e r n c he.2, restP_big e r n c, blk_cons]
      obtain ⟨i1, i2⟩ := ih (n := n - e.2) (by omega) hr
      rw [i1, i2, List.take_append, List.drop_append, List.take_of_length_le (l := blkR e) (by omega), List.drop_of_length_le (l := blkR e) (by omega), hl, show (n - e.2).toNat = n.toNat - e.2.toNat by omega]
      exact ⟨rfl, by simp⟩
    · have c' : n < e.2 := by omega
      have hr2 : ∀ e ∈ r, 1 ≤ e.2 := fun x hx => (hr x hx).2
      rw [firstP_small e r n c' h0 hr2, restP_small e r n c' hr2, blk_cons, blkR_drop e n h0 (by omega) he.1, List.take_append, List.drop_append, hl, show n.toNat - e.2.toNat = 0 by omega]
      constructor
      · split
        · rw [show blk [(e.1, n)] = blkR (e.1, n) by simp [blk], blkR_take e n h0 (by omega)]
          simp
        · have : n = 0 := by omega
          subst this
          simp [blk]
      · simp
theorem apart_cons (a : Int × Int) (L : List (Int × Int)) : apartP (a :: L) = ((match L.head? with | none => true | some b => !mrg a b) && apartP L) := by
  cases L with
  | nil => rfl
  | cons b r => rfl
theorem mrg_fst (a b c : Int × Int) (h : b.1 = c.1) : mrg a b = mrg a c := by unfold mrg; rw [h]
theorem mrg_spot (e b : Int × Int) (n : Int) (h0 : 0 ≤ n) (ha : -1 ≤ e.1) : mrg (spotP e n, e.2 - n) b = mrg e b := by
  unfold mrg spotP
  simp only
  by_cases he : e.1 = -1
  · simp [he]
  · rw [if_neg he]
    have : ¬ e.1 + n = -1 := by omega
    by_cases hb : b.1 = -1
    · rw [if_pos (.inr hb), if_pos (.inr hb)]
      rw [decide_eq_decide]
      omega
    · rw [if_neg (fun q => q.elim this hb), if_neg (fun q => q.elim he hb)]
      rw [decide_eq_decide]
      omega
/-- What is told of both parts. -/
theorem split_ok {l : List (Int × Int)} {n : Int} {B : Int} (h0 : 0 ≤ n) (h : ∀ e ∈ l, -1 ≤ e.1 ∧ e.1 ≤ B ∧ 1 ≤ e.2 ∧ e.2 ≤ 65536) (hap : apartP l = true) :
    (∀ e ∈ firstP l n, -1 ≤ e.1 ∧ e.1 ≤ B ∧ 1 ≤ e.2 ∧ e.2 ≤ 65536) ∧ (∀ e ∈ restP l n, -1 ≤ e.1 ∧ e.1 ≤ B + 65536 ∧ 1 ≤ e.2 ∧ e.2 ≤ 65536) ∧
    apartP (firstP l n) = true ∧ apartP (restP l n) = true ∧ (firstP l n).length ≤ l.length ∧ (restP l n).length ≤ l.length ∧
    (∀ b, (firstP l n).head? = some b → ∃ c, l.head? = some c ∧ b.1 = c.1) ∧ heldZ (firstP l n) + heldZ (restP l n) = heldZ l := by
  induction l generalizing n with
  | nil => simp [firstP, restP, apartP, heldZ]
  | cons e r ih =>
    have he := h e (by simp)
    have hr : ∀ e ∈ r, -1 ≤ e.1 ∧ e.1 ≤ B ∧ 1 ≤ e.2 ∧ e.2 ≤ 65536 := fun x hx => h x (by simp [hx])
    rw [apart_cons, Bool.and_eq_true] at hap
    by_cases c : e.2 ≤ n
    · rw [firstP_big e r n c he.2.2.1, restP_big e r n c]
      obtain ⟨i1, i2, i3, i4, i5, i6, i7, i8⟩ := ih (n := n - e.2) (by omega) hr hap.2
      refine ⟨fun x hx => ?_, i2, ?_, i4, by simp; omega, by simp; omega, fun b hb => ⟨e, rfl, by simp at hb; rw [hb]⟩, by simp only [heldZ]; omega⟩
      · rcases List.mem_cons.1 hx with q | q
        · subst q; exact he
        · exact i1 x q
      · rw [apart_cons, i3, Bool.and_true]
        cases q : (firstP r (n - e.2)).head? with
        | none => rfl
        | some b =>
          obtain ⟨cc, hc, hb⟩ := i7 b q
          have := hap.1
          rw [hc] at this
          simp only at this ⊢
          rw [mrg_fst e b cc hb]
          exact this
    · have c' : n < e.2 := by omega
      have hr2 : ∀ e ∈ r, 1 ≤ e.2 := fun x hx => (hr x hx).2.2.1
      rw [firstP_small e r n c' h0 hr2, restP_small e r n c' hr2]
      refine ⟨fun x hx => ?_, fun x hx => ?_, ?_, ?_, ?_, by simp, fun b hb => ⟨e, rfl, ?_⟩, ?_⟩
      · split at hx
        · simp at hx; subst hx; exact ⟨he.1, he.2.1, by simp only; omega, by simp only; omega⟩
        · cases hx
      · rcases List.mem_cons.1 hx with q | q
        · subst q
          unfold spotP
          simp only
          split <;> omega
        · have := hr x q; omega
      · split <;> rfl
      · rw [apart_cons, hap.2, Bool.and_true]
        have := hap.1
        cases q : r.head? with
        | none => rfl
        | some b =>
          rw [q] at this
          simp only at this ⊢
          rw [mrg_spot e b n h0 he.1]
          exact this
      · split <;> simp
      · split at hb
        · simp at hb; rw [← hb]
        · cases hb
      · simp only [heldZ]
        have hs : spotP e n = -1 ↔ e.1 = -1 := by
          unfold spotP
          split
          · rename_i q; simp [q]
          · rename_i q; omega
        by_cases q : e.1 = -1
        · rw [if_pos (hs.2 q), if_pos q]
          split <;> simp [heldZ, q]
        · rw [if_neg (fun z => q (hs.1 z)), if_neg q]
          split
          · simp only [heldZ]; rw [if_neg q]; omega
          · simp only [heldZ]; omega
theorem firstP_at {l : List (Int × Int)} {k : Nat} {e : Int × Int} (h : l[k]? = some e) (n : Int) : firstP (l.drop k) n = (if 0 < min n e.2 then [(e.1, min n e.2)] else []) ++ firstP (l.drop (k + 1)) (n - min n e.2) := by
  obtain ⟨a, b⟩ := List.getElem?_eq_some_iff.1 h
  rw [List.drop_eq_getElem_cons a, b]
  rfl
theorem restP_at {l : List (Int × Int)} {k : Nat} {e : Int × Int} (h : l[k]? = some e) (n : Int) : restP (l.drop k) n = (if min n e.2 < e.2 then [(spotP e (min n e.2), e.2 - min n e.2)] else []) ++ restP (l.drop (k + 1)) (n - min n e.2) := by
  obtain ⟨a, b⟩ := List.getElem?_eq_some_iff.1 h
  rw [List.drop_eq_getElem_cons a, b]
  rfl

end Go.Proofs.Ytpkhfdcokcchdaa
