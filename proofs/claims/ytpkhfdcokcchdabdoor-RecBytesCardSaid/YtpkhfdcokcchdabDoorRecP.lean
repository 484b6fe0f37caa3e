/-
  Layer 12, plain: a record's bytes, and what is told of bytes.
-/
import Derived.Test.YtpkhfdcokcchdabDoorPure
import Derived.Test.YtpkhfdcokcchdabDoorCrcPure
namespace Go.Proofs.YtpkhfdcokcchdabDoor

/-- Byte i; nought behind the end. -/
def bt (l : List UInt8) (i : Nat) : UInt8 := l.getD i 0
theorem bt_get (l : List UInt8) (i : Nat) (h : i < l.length) : bt l i = l[i] := by simp [bt, h]
theorem bt_out (l : List UInt8) (i : Nat) (h : l.length ≤ i) : bt l i = 0 := by simp [bt, h]
theorem ext_bt {a b : List UInt8} (h : a.length = b.length) (e : ∀ i, i < a.length → bt a i = bt b i) : a = b := by
  apply List.ext_getElem h
  intro i h1 h2
  have := e i h1
  rwa [bt_get a i h1, bt_get b i h2] at this
theorem bt_append (a b : List UInt8) (i : Nat) : bt (a ++ b) i = if i < a.length then bt a i else bt b (i - a.length) := by
  unfold bt
  split
  · rename_i h; simp [List.getD, List.getElem?_append_left h]
  · rename_i h; simp [List.getD, List.getElem?_append_right (Nat.le_of_not_lt h)]
theorem bt_take (a : List UInt8) (n i : Nat) : bt (a.take n) i = if i < n then bt a i else 0 := by
  unfold bt
  split
  · rename_i h; simp [List.getD, List.getElem?_take_of_lt h]
  · rename_i h; simp [List.getD, List.getElem?_take, h]
theorem bt_drop (a : List UInt8) (n i : Nat) : bt (a.drop n) i = bt a (n + i) := by
  simp [bt, List.getD, List.getElem?_drop]
theorem bt_rep (n i : Nat) : bt (List.replicate n 0) i = 0 := by
  unfold bt
  simp [List.getD, List.getElem?_replicate]
  split <;> rfl
theorem bt_map (f : Nat → UInt8) (n i : Nat) (h : i < n) : bt ((List.range n).map f) i = f i := by
  rw [bt_get _ _ (by simpa using h)]; simp
theorem bt_one (m : UInt8) (i : Nat) : bt [m] i = if i = 0 then m else 0 := by
  cases i <;> simp [bt]

/-- Up to seven bytes, noughts, a mark. -/
def wordL (s : List UInt8) (m : UInt8) : List UInt8 := s ++ (List.replicate (7 - s.length) 0 ++ [m])
theorem wordL_len (s : List UInt8) (m : UInt8) (h : s.length ≤ 7) : (wordL s m).length = 8 := by simp [wordL]; omega
theorem wordL_bt (s : List UInt8) (m : UInt8) (h : s.length ≤ 7) (r : Nat) (hr : r < 8) : bt (wordL s m) r = if r = 7 then m else bt s r := by
  unfold wordL
  rw [bt_append, bt_append, List.length_replicate, bt_rep, bt_one]
  by_cases h1 : r < s.length
  · rw [if_pos h1, if_neg (by omega)]
  · rw [if_neg h1, bt_out s r (by omega)]
    by_cases h2 : r = 7
    · subst h2; rw [if_neg (by omega), if_pos (by omega), if_pos rfl]
    · rw [if_pos (by omega), if_neg h2]

def headB (e v q kind n : Nat) : List UInt8 := putL n 2 ++ (putL kind 1 ++ (putL e 4 ++ (putL v 4 ++ putL q 4)))
theorem headB_len (e v q kind n : Nat) : (headB e v q kind n).length = 15 := by simp [headB, putL_length]
def markN (w : Nat) : UInt8 := if w = 0 then 17 else if w = 1 then 18 else if w = 2 then 19 else 32
/-- Byte j of an encoding, of the head's and the body's bytes, but for the sum. -/
def encF (h b : List UInt8) (j : Nat) : UInt8 := if j % 8 = 7 then markN (j / 8) else if j < 24 then bt h (7 * (j / 8) + j % 8) else bt b (7 * ((j - 24) / 8) + j % 8)
def preK (h b : List UInt8) (k : Nat) : List UInt8 := (List.range (8 * k)).map (encF h b)
theorem preK_len (h b : List UInt8) (k : Nat) : (preK h b k).length = 8 * k := by simp [preK]
theorem preK_bt (h b : List UInt8) (k i : Nat) (hi : i < 8 * k) : bt (preK h b k) i = encF h b i := bt_map _ _ _ hi
theorem preK_zero (h b : List UInt8) : preK h b 0 = [] := rfl
theorem preK_head (h b : List UInt8) (k : Nat) (hk : k < 3) : preK h b (k + 1) = preK h b k ++ wordL ((h.drop (7 * k)).take 7) (markN k) := by
  have hl : ((h.drop (7 * k)).take 7).length ≤ 7 := List.length_take_le _ _
  apply ext_bt
  · rw [List.length_append, wordL_len _ _ hl, preK_len, preK_len]; omega
  · intro i hi
    rw [preK_len] at hi
    rw [preK_bt _ _ _ _ hi, bt_append, preK_len]
    split
    · rename_i c; rw [preK_bt _ _ _ _ c]
    · rename_i c
      rw [wordL_bt _ _ hl _ (by omega), bt_take, bt_drop]
      unfold encF
      have h1 : i / 8 = k := by omega
      by_cases h2 : i % 8 = 7
      · rw [if_pos h2, if_pos (by omega), h1]
      · rw [if_neg h2, if_pos (by omega), if_neg (by omega), if_pos (by omega), h1]
        congr 1; omega
theorem preK_body (h b : List UInt8) (k : Nat) : preK h b (3 + k + 1) = preK h b (3 + k) ++ wordL ((b.drop (7 * k)).take 7) 32 := by
  have hl : ((b.drop (7 * k)).take 7).length ≤ 7 := List.length_take_le _ _
  apply ext_bt
  · rw [List.length_append, wordL_len _ _ hl, preK_len, preK_len]; omega
  · intro i hi
    rw [preK_len] at hi
    rw [preK_bt _ _ _ _ hi, bt_append, preK_len]
    split
    · rename_i c; rw [preK_bt _ _ _ _ c]
    · rename_i c
      rw [wordL_bt _ _ hl _ (by omega), bt_take, bt_drop]
      unfold encF
      have h1 : i / 8 = 3 + k := by omega
      by_cases h2 : i % 8 = 7
      · rw [if_pos h2, if_pos (by omega), h1]
        unfold markN
        rw [if_neg (by omega), if_neg (by omega), if_neg (by omega)]
      · rw [if_neg h2, if_neg (by omega), if_neg (by omega), if_pos (by omega)]
        congr 1; omega

def nW (n : Nat) : Nat := (n + 6) / 7
def sizeN (n : Nat) : Nat := 8 * nW n + 32
/-- What stands ahead of the sum. -/
def preL (e v q kind : Nat) (b : List UInt8) : List UInt8 := preK (headB e v q kind b.length) b (3 + nW b.length)
theorem preL_len (e v q kind : Nat) (b : List UInt8) : (preL e v q kind b).length = sizeN b.length - 8 := by
  unfold preL sizeN; rw [preK_len]; omega
def sumW (p : List UInt8) : List UInt8 := wordL (putL (sum32 p).toNat 4) 48
theorem sumW_len (p : List UInt8) : (sumW p).length = 8 := wordL_len _ _ (by simp [putL_length])
def encL (e v q kind : Nat) (b : List UInt8) : List UInt8 := preL e v q kind b ++ sumW (preL e v q kind b)
theorem encL_len (e v q kind : Nat) (b : List UInt8) : (encL e v q kind b).length = sizeN b.length := by
  unfold encL; rw [List.length_append, preL_len, sumW_len]; unfold sizeN; omega

/-! ### What is told of bytes -/
def zB (l : List UInt8) : Bool := l.all (· == 0)
theorem zB_iff (l : List UInt8) : zB l = true ↔ ∀ i, i < l.length → bt l i = 0 := by
  unfold zB
  rw [List.all_eq_true]
  constructor
  · intro h i hi
    rw [bt_get l i hi]
    simpa using h l[i] (List.getElem_mem hi)
  · intro h x hx
    obtain ⟨i, hi, rfl⟩ := List.getElem_of_mem hx
    have := h i hi
    rw [bt_get l i hi] at this
    simpa using this
def decHead (s : List UInt8) : List UInt8 := s.take 7 ++ ((s.drop 8).take 7 ++ (s.drop 16).take 7)
theorem decHead_len (s : List UInt8) (h : 24 ≤ s.length) : (decHead s).length = 21 := by simp [decHead]; omega
theorem decHead_bt (s : List UInt8) (h : 24 ≤ s.length) (i : Nat) (hi : i < 21) : bt (decHead s) i = bt s (8 * (i / 7) + i % 7) := by
  unfold decHead
  have l1 : (s.take 7).length = 7 := by simp; omega
  have l2 : ((s.drop 8).take 7).length = 7 := by simp; omega
  rw [bt_append, bt_append, l1, l2, bt_take, bt_take, bt_take, bt_drop, bt_drop]
  have h3 : i / 7 = 0 ∨ i / 7 = 1 ∨ i / 7 = 2 := by omega
  rcases h3 with h3 | h3 | h3
  · rw [if_pos (by omega), if_pos (by omega)]; congr 1; omega
  · rw [if_neg (by omega), if_pos (by omega), if_pos (by omega)]; congr 1; omega
  · rw [if_neg (by omega), if_neg (by omega), if_pos (by omega)]; congr 1; omega
def dLen (s : List UInt8) : Nat := getL ((decHead s).take 2)
def dKind (s : List UInt8) : Nat := (bt (decHead s) 2).toNat
def dE (s : List UInt8) : Nat := getL (((decHead s).drop 3).take 4)
def dV (s : List UInt8) : Nat := getL (((decHead s).drop 7).take 4)
def dQ (s : List UInt8) : Nat := getL (((decHead s).drop 11).take 4)
def dBody (s : List UInt8) (n : Nat) : List UInt8 := (List.range n).map fun i => bt s (24 + 8 * (i / 7) + i % 7)
theorem dBody_len (s : List UInt8) (n : Nat) : (dBody s n).length = n := by simp [dBody]
theorem dBody_bt (s : List UInt8) (n i : Nat) (h : i < n) : bt (dBody s n) i = bt s (24 + 8 * (i / 7) + i % 7) := bt_map _ _ _ h
/-- Is a word's mark right, and are the bytes that aren't used noughts? -/
def unW (s : List UInt8) (o : Nat) (m : UInt8) (used : Nat) : Bool := bt s (o + 7) == m && zB ((s.drop (o + used)).take (7 - used))
theorem unW_iff (s : List UInt8) (o : Nat) (m : UInt8) (used : Nat) (h : o + 8 ≤ s.length) (hu : used ≤ 7) : unW s o m used = true ↔ bt s (o + 7) = m ∧ ∀ i, used ≤ i → i < 7 → bt s (o + i) = 0 := by
  unfold unW
  rw [Bool.and_eq_true, zB_iff, beq_iff_eq]
  have hl : ((s.drop (o + used)).take (7 - used)).length = 7 - used := by simp; omega
  rw [hl]
  constructor
  · rintro ⟨h1, h2⟩
    refine ⟨h1, fun i hi hi2 => ?_⟩
    have := h2 (i - used) (by omega)
    rw [bt_take, if_pos (by omega), bt_drop] at this
    rwa [show o + used + (i - used) = o + i by omega] at this
  · rintro ⟨h1, h2⟩
    refine ⟨h1, fun i hi => ?_⟩
    rw [bt_take, if_pos hi, bt_drop, show o + used + i = o + (used + i) by omega]
    exact h2 _ (by omega) (by omega)
def wordsOk (s : List UInt8) (n : Nat) : Nat → Bool
  | 0 => true
  | k + 1 => wordsOk s n k && unW s (24 + 8 * k) 32 (min 7 (n - 7 * k))
theorem wordsOk_iff (s : List UInt8) (n k : Nat) : wordsOk s n k = true ↔ ∀ i, i < k → unW s (24 + 8 * i) 32 (min 7 (n - 7 * i)) = true := by
  induction k with
  | zero => simp [wordsOk]
  | succ k ih =>
    rw [wordsOk, Bool.and_eq_true, ih]
    constructor
    · rintro ⟨h1, h2⟩ i hi
      by_cases e : i = k
      · subst e; exact h2
      · exact h1 i (by omega)
    · intro h; exact ⟨fun i hi => h i (by omega), h k (by omega)⟩
def headOk (s : List UInt8) : Bool := unW s 0 17 7 && (unW s 8 18 7 && unW s 16 19 7)
/-- The head, what it says of the length, the words of the body, the sum's word. -/
def formOk (s : List UInt8) : Bool :=
  decide (24 ≤ s.length) && (headOk s && (zB ((decHead s).drop 15) && (decide (dKind s ≠ 0) && (decide (dLen s ≤ 1024) && (decide (sizeN (dLen s) ≤ s.length) && (wordsOk s (dLen s) (nW (dLen s)) && unW s (sizeN (dLen s) - 8) 48 4))))))
def sumOk (s : List UInt8) : Bool := getL ((s.drop (sizeN (dLen s) - 8)).take 4) == (sum32 (s.take (sizeN (dLen s) - 8))).toNat
/-- 0, or the error's number. -/
def decE (s : List UInt8) : Nat := if formOk s = true then (if sumOk s = true then 0 else 5) else 4

theorem putL_getL_n (l : List UInt8) (n : Nat) (h : l.length = n) : putL (getL l) n = l := by subst h; exact putL_getL l
/-- The head that is told has the bytes that were read. -/
theorem head_told (s : List UInt8) (h : 24 ≤ s.length) : headB (dE s) (dV s) (dQ s) (dKind s) (dLen s) = (decHead s).take 15 := by
  have hl := decHead_len s h
  unfold headB dE dV dQ dKind dLen
  rw [putL_getL_n _ 2 (by simp [hl]), putL_getL_n _ 4 (by simp [hl]), putL_getL_n _ 4 (by simp [hl]), putL_getL_n _ 4 (by simp [hl])]
  have h1 : putL (bt (decHead s) 2).toNat 1 = [bt (decHead s) 2] := by
    have := (bt (decHead s) 2).toNat_lt
    simp [putL]
  rw [h1]
  generalize decHead s = d at hl
  match d, hl with
  | [a0, a1, a2, a3, a4, a5, a6, a7, a8, a9, a10, a11, a12, a13, a14, a15, a16, a17, a18, a19, a20], _ => rfl
theorem dLen_lt (s : List UInt8) : dLen s < 65536 := by
  have h := getL_lt ((decHead s).take 2)
  have h2 : ((decHead s).take 2).length ≤ 2 := List.length_take_le _ _
  have h3 : 256 ^ ((decHead s).take 2).length ≤ 256 ^ 2 := Nat.pow_le_pow_right (by omega) h2
  unfold dLen; omega
theorem dKind_lt (s : List UInt8) : dKind s < 256 := (bt (decHead s) 2).toNat_lt
theorem get4_lt (l : List UInt8) : getL (l.take 4) < 4294967296 := by
  have h := getL_lt (l.take 4)
  have h2 : (l.take 4).length ≤ 4 := List.length_take_le _ _
  have h3 : 256 ^ (l.take 4).length ≤ 256 ^ 4 := Nat.pow_le_pow_right (by omega) h2
  omega
/-- The bytes ahead of the sum are those of the record that is told just if marks and noughts are right. -/
theorem pre_told (s : List UInt8) (h : 24 ≤ s.length) (hs : sizeN (dLen s) ≤ s.length) :
    (headOk s && (zB ((decHead s).drop 15) && wordsOk s (dLen s) (nW (dLen s)))) = true ↔ preL (dE s) (dV s) (dQ s) (dKind s) (dBody s (dLen s)) = s.take (sizeN (dLen s) - 8) := by
  have hz : sizeN (dLen s) = 8 * nW (dLen s) + 32 := rfl
  have hw : nW (dLen s) = (dLen s + 6) / 7 := rfl
  have hdl := decHead_len s h
  have e1 : (headOk s && (zB ((decHead s).drop 15) && wordsOk s (dLen s) (nW (dLen s)))) = true ↔ ∀ j, j < 8 * (3 + nW (dLen s)) → encF (headB (dE s) (dV s) (dQ s) (dKind s) (dLen s)) (dBody s (dLen s)) j = bt s j := by
    rw [head_told s h]
    unfold headOk
    rw [Bool.and_eq_true, Bool.and_eq_true, Bool.and_eq_true, Bool.and_eq_true, unW_iff s 0 17 7 (by omega) (by omega), unW_iff s 8 18 7 (by omega) (by omega), unW_iff s 16 19 7 (by omega) (by omega), zB_iff, wordsOk_iff]
    have hl15 : ((decHead s).drop 15).length = 6 := by simp [hdl]
    rw [hl15]
    generalize hn : dLen s = n at *
    constructor
    · rintro ⟨⟨⟨m0, _⟩, ⟨m1, _⟩, ⟨m2, _⟩⟩, z, W⟩ j hj
      unfold encF
      by_cases h7 : j % 8 = 7
      · rw [if_pos h7]
        unfold markN
        by_cases c0 : j / 8 = 0
        · rw [if_pos c0, ← m0]; congr 1; omega
        by_cases c1 : j / 8 = 1
        · rw [if_neg c0, if_pos c1, ← m1]; congr 1; omega
        by_cases c2 : j / 8 = 2
        · rw [if_neg c0, if_neg c1, if_pos c2, ← m2]; congr 1; omega
        rw [if_neg c0, if_neg c1, if_neg c2]
        have w := W (j / 8 - 3) (by omega)
        rw [unW_iff s _ 32 _ (by omega) (by omega)] at w
        rw [← w.1]; congr 1; omega
      · rw [if_neg h7]
        by_cases c : j < 24
        · rw [if_pos c, bt_take]
          by_cases c15 : 7 * (j / 8) + j % 8 < 15
          · rw [if_pos c15, decHead_bt s h _ (by omega)]; congr 1; omega
          · rw [if_neg c15]
            have zz := z (7 * (j / 8) + j % 8 - 15) (by omega)
            rw [bt_drop, decHead_bt s h _ (by omega)] at zz
            rw [← zz]; congr 1; omega
        · rw [if_neg c]
          by_cases cn : 7 * ((j - 24) / 8) + j % 8 < n
          · rw [dBody_bt s n _ cn]; congr 1; omega
          · rw [bt_out _ _ (by rw [dBody_len]; omega)]
            have w := W ((j - 24) / 8) (by omega)
            rw [unW_iff s _ 32 _ (by omega) (by omega)] at w
            have := w.2 (j % 8) (by omega) (by omega)
            rw [← this]; congr 1; omega
    · intro H
      have M : ∀ j, j < 8 * (3 + nW n) → j % 8 = 7 → bt s j = markN (j / 8) := fun j hj h7 => by
        have := H j hj
        unfold encF at this
        rw [if_pos h7] at this
        exact this.symm
      refine ⟨⟨⟨M 7 (by omega) rfl, fun i a b => by omega⟩, ⟨M 15 (by omega) rfl, fun i a b => by omega⟩, ⟨M 23 (by omega) rfl, fun i a b => by omega⟩⟩, fun i hi => ?_, fun i hi => ?_⟩
      · rw [bt_drop, decHead_bt s h _ (by omega)]
        have := H (8 * ((15 + i) / 7) + (15 + i) % 7) (by omega)
        unfold encF at this
        rw [if_neg (by omega), if_pos (by omega), bt_take, if_neg (by omega)] at this
        exact this.symm
      · rw [unW_iff s _ 32 _ (by omega) (by omega)]
        refine ⟨?_, fun r h1 h2 => ?_⟩
        · rw [M (24 + 8 * i + 7) (by omega) (by omega)]
          unfold markN
          rw [if_neg (by omega), if_neg (by omega), if_neg (by omega)]
        · have := H (24 + 8 * i + r) (by omega)
          unfold encF at this
          rw [if_neg (by omega), if_neg (by omega), bt_out _ _ (by rw [dBody_len]; omega)] at this
          exact this.symm
  rw [e1]
  have hlen : (preL (dE s) (dV s) (dQ s) (dKind s) (dBody s (dLen s))).length = (s.take (sizeN (dLen s) - 8)).length := by
    rw [preL_len, dBody_len, List.length_take]; omega
  constructor
  · intro H
    apply ext_bt hlen
    intro i hi
    rw [preL_len, dBody_len] at hi
    have := H i (by omega)
    unfold preL
    rw [dBody_len, preK_bt _ _ _ _ (by omega), this, bt_take, if_pos hi]
  · intro H j hj
    have e : bt (preL (dE s) (dV s) (dQ s) (dKind s) (dBody s (dLen s))) j = bt (s.take (sizeN (dLen s) - 8)) j := by rw [H]
    unfold preL at e
    rw [dBody_len, preK_bt _ _ _ _ hj, bt_take, if_pos (by omega)] at e
    exact e

end Go.Proofs.YtpkhfdcokcchdabDoor
