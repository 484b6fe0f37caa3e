/-
  Layer 12, plain: what the document's decoding asks is what the program looks at; a record told back; a byte changed; marks.
-/
import Derived.Test.YtpkhfdcokcchdabDoorRecP
namespace Go.Proofs.YtpkhfdcokcchdabDoor

theorem four_bt {a : List UInt8} (h : a.length = 4) (x y z u : UInt8) : a = [x, y, z, u] ↔ bt a 0 = x ∧ bt a 1 = y ∧ bt a 2 = z ∧ bt a 3 = u := by
  match a, h with
  | [p, q, r, t], _ => simp [bt]
theorem sum_tail (s : List UInt8) (z : Nat) (hz : 8 ≤ z) (h : z ≤ s.length) : unW s (z - 8) 48 4 = true ↔ (s.drop (z - 4)).take 4 = [0, 0, 0, 48] := by
  rw [unW_iff s _ 48 4 (by omega) (by omega), four_bt (by simp; omega)]
  have e : ∀ i, i < 4 → bt ((s.drop (z - 4)).take 4) i = bt s (z - 4 + i) := fun i hi => by rw [bt_take, if_pos hi, bt_drop]
  rw [e 0 (by omega), e 1 (by omega), e 2 (by omega), e 3 (by omega), show z - 8 + 7 = z - 4 + 3 by omega]
  constructor
  · rintro ⟨h1, h2⟩
    have a := h2 4 (by omega) (by omega)
    have b := h2 5 (by omega) (by omega)
    have c := h2 6 (by omega) (by omega)
    rw [show z - 8 + 4 = z - 4 + 0 by omega] at a
    rw [show z - 8 + 5 = z - 4 + 1 by omega] at b
    rw [show z - 8 + 6 = z - 4 + 2 by omega] at c
    exact ⟨a, b, c, h1⟩
  · rintro ⟨a, b, c, h1⟩
    refine ⟨h1, fun i p q => ?_⟩
    rcases (show i = 4 ∨ i = 5 ∨ i = 6 by omega) with rfl | rfl | rfl
    · rw [show z - 8 + 4 = z - 4 + 0 by omega]; exact a
    · rw [show z - 8 + 5 = z - 4 + 1 by omega]; exact b
    · rw [show z - 8 + 6 = z - 4 + 2 by omega]; exact c
/-- The record that bytes tell, encoded. -/
def preT (s : List UInt8) : List UInt8 := preL (dE s) (dV s) (dQ s) (dKind s) (dBody s (dLen s))
def encT (s : List UInt8) : List UInt8 := encL (dE s) (dV s) (dQ s) (dKind s) (dBody s (dLen s))
theorem encT_eq (s : List UInt8) : encT s = preT s ++ sumW (preT s) := rfl
theorem preT_len (s : List UInt8) : (preT s).length = sizeN (dLen s) - 8 := by unfold preT; rw [preL_len, dBody_len]
theorem encT_len (s : List UInt8) : (encT s).length = sizeN (dLen s) := by unfold encT; rw [encL_len, dBody_len]
theorem size_ge (n : Nat) : 32 ≤ sizeN n := by unfold sizeN; omega
theorem sumW_parts (p : List UInt8) : sumW p = putL (sum32 p).toNat 4 ++ [0, 0, 0, 48] := by
  unfold sumW wordL; rw [putL_length]; rfl
theorem formOk_iff (s : List UInt8) : formOk s = true ↔ 24 ≤ s.length ∧ dLen s ≤ 1024 ∧ sizeN (dLen s) ≤ s.length ∧ dKind s ≠ 0 ∧ preT s = s.take (sizeN (dLen s) - 8) ∧ (s.drop (sizeN (dLen s) - 4)).take 4 = [0, 0, 0, 48] := by
  have hz := size_ge (dLen s)
  unfold formOk
  simp only [Bool.and_eq_true, decide_eq_true_eq]
  constructor
  · rintro ⟨h1, h2, h3, h4, h5, h6, h7, h8⟩
    refine ⟨h1, h5, h6, h4, ?_, (sum_tail s _ (by omega) h6).1 h8⟩
    exact (pre_told s h1 h6).1 (by rw [h2, h3, h7]; rfl)
  · rintro ⟨h1, h5, h6, h4, h2, h8⟩
    have := (pre_told s h1 h6).2 h2
    simp only [Bool.and_eq_true] at this
    exact ⟨h1, this.1, this.2.1, h4, h5, h6, this.2.2, (sum_tail s _ (by omega) h6).2 h8⟩
theorem putL_inj4 {a b : Nat} (ha : a < 4294967296) (hb : b < 4294967296) (h : putL a 4 = putL b 4) : a = b := by
  have h1 := getL_putL a 4
  have h2 := getL_putL b 4
  rw [h] at h1
  have : (256 : Nat) ^ 4 = 4294967296 := by decide
  rw [this] at h1 h2
  omega
theorem sum_lt (p : List UInt8) : (sum32 p).toNat < 4294967296 := (sum32 p).isLt
/-- The sum is right just if the bytes are those of the record that they tell. -/
theorem sumOk_iff (s : List UInt8) (h : formOk s = true) : sumOk s = true ↔ encT s = s.take (sizeN (dLen s)) := by
  obtain ⟨h1, h2, h3, h4, h5, h6⟩ := (formOk_iff s).1 h
  have hz := size_ge (dLen s)
  have hs : s.take (sizeN (dLen s)) = s.take (sizeN (dLen s) - 8) ++ ((s.drop (sizeN (dLen s) - 8)).take 4 ++ (s.drop (sizeN (dLen s) - 4)).take 4) := by
    apply ext_bt
    · simp; omega
    · intro i hi
      have hi' : i < sizeN (dLen s) := by have := List.length_take_le (sizeN (dLen s)) s; omega
      have l1 : (s.take (sizeN (dLen s) - 8)).length = sizeN (dLen s) - 8 := by simp; omega
      have l2 : ((s.drop (sizeN (dLen s) - 8)).take 4).length = 4 := by simp; omega
      rw [bt_append, bt_append, l1, l2, bt_take, bt_take, bt_take, bt_take, bt_drop, bt_drop, if_pos hi']
      by_cases c1 : i < sizeN (dLen s) - 8
      · rw [if_pos c1, if_pos c1]
      · rw [if_neg c1]
        by_cases c2 : i - (sizeN (dLen s) - 8) < 4
        · rw [if_pos c2, if_pos c2]; congr 1; omega
        · rw [if_neg c2, if_pos (by omega)]; congr 1; omega
  unfold sumOk
  rw [beq_iff_eq, hs, h6, encT_eq, h5, sumW_parts]
  have hl4 : ((s.drop (sizeN (dLen s) - 8)).take 4).length = 4 := by simp; omega
  constructor
  · intro e
    rw [← e, putL_getL_n _ 4 hl4]
  · intro e
    have e2 := (List.append_cancel_right (List.append_cancel_left e))
    rw [← e2, getL_putL, show (256 : Nat) ^ 4 = 4294967296 by decide, Nat.mod_eq_of_lt (sum_lt _)]

/-! ### A record told back -/
theorem decHead_of (s : List UInt8) (h : List UInt8) (b : List UInt8) (k : Nat) (hk : 3 ≤ k) (hh : h.length = 15) (r : List UInt8) (hs : s = preK h b k ++ r) : decHead s = h ++ List.replicate 6 0 := by
  have hl : 24 ≤ s.length := by rw [hs, List.length_append, preK_len]; omega
  apply ext_bt
  · rw [decHead_len s hl]; simp [hh]
  · intro i hi
    rw [decHead_len s hl] at hi
    rw [decHead_bt s hl i hi, hs, bt_append, preK_len, if_pos (by omega), preK_bt _ _ _ _ (by omega), bt_append, hh, bt_rep]
    unfold encF
    rw [if_neg (by omega), if_pos (by omega), show 7 * ((8 * (i / 7) + i % 7) / 8) + (8 * (i / 7) + i % 7) % 8 = i by omega]
    split
    · rfl
    · exact bt_out _ _ (by omega)
theorem getL_putL_lt (n k : Nat) (h : n < 256 ^ k) : getL (putL n k) = n := by rw [getL_putL, Nat.mod_eq_of_lt h]
section
variable (e v q kind : Nat) (b : List UInt8) (he : e < 4294967296) (hv : v < 4294967296) (hq : q < 4294967296) (hk : kind < 256) (h0 : kind ≠ 0) (hb : b.length ≤ 1024)
theorem preL_eq : preL e v q kind b = preK (headB e v q kind b.length) b (3 + nW b.length) := rfl
theorem dHead_enc (r : List UInt8) : decHead (encL e v q kind b ++ r) = headB e v q kind b.length ++ List.replicate 6 0 :=
  decHead_of _ _ b (3 + nW b.length) (by omega) (headB_len _ _ _ _ _) (sumW (preL e v q kind b) ++ r) (by unfold encL; rw [List.append_assoc]; rfl)
theorem fields_head (n : Nat) (Z : List UInt8) :
    ((headB e v q kind n ++ Z).take 2 = putL n 2) ∧ (bt (headB e v q kind n ++ Z) 2 = bt (putL kind 1) 0) ∧ (((headB e v q kind n ++ Z).drop 3).take 4 = putL e 4) ∧ (((headB e v q kind n ++ Z).drop 7).take 4 = putL v 4) ∧ (((headB e v q kind n ++ Z).drop 11).take 4 = putL q 4) := by
  simp [headB, putL, bt]
include he hv hq hk hb
theorem dec_fields (r : List UInt8) : dLen (encL e v q kind b ++ r) = b.length ∧ dKind (encL e v q kind b ++ r) = kind ∧ dE (encL e v q kind b ++ r) = e ∧ dV (encL e v q kind b ++ r) = v ∧ dQ (encL e v q kind b ++ r) = q ∧ dBody (encL e v q kind b ++ r) b.length = b := by
  obtain ⟨f1, f2, f3, f4, f5⟩ := fields_head e v q kind b.length (List.replicate 6 0)
  unfold dLen dKind dE dV dQ
  rw [dHead_enc, f1, f2, f3, f4, f5]
  have p4 : (256 : Nat) ^ 4 = 4294967296 := by decide
  refine ⟨getL_putL_lt _ _ (by omega), ?_, getL_putL_lt _ _ (by omega), getL_putL_lt _ _ (by omega), getL_putL_lt _ _ (by omega), ?_⟩
  · simp [putL, bt]; omega
  · have hn : nW b.length = (b.length + 6) / 7 := rfl
    have hS : sizeN b.length = 8 * nW b.length + 32 := rfl
    apply ext_bt (dBody_len _ _)
    intro i hi
    rw [dBody_len] at hi
    rw [dBody_bt _ _ _ hi]
    unfold encL
    rw [bt_append, bt_append, List.length_append, preL_len, sumW_len, if_pos (by omega), if_pos (by omega)]
    unfold preL
    rw [preK_bt _ _ _ _ (by omega)]
    unfold encF
    rw [if_neg (by omega), if_neg (by omega)]
    congr 1; omega
include h0
theorem dec_enc (r : List UInt8) : formOk (encL e v q kind b ++ r) = true ∧ sumOk (encL e v q kind b ++ r) = true := by
  obtain ⟨f1, f2, f3, f4, f5, f6⟩ := dec_fields e v q kind b he hv hq hk hb r
  have hl := encL_len e v q kind b
  have hz := size_ge b.length
  have hp := preL_len e v q kind b
  have hT : preT (encL e v q kind b ++ r) = preL e v q kind b := by unfold preT; rw [f1, f2, f3, f4, f5, f6]
  have hE : encT (encL e v q kind b ++ r) = encL e v q kind b := by unfold encT; rw [f1, f2, f3, f4, f5, f6]
  have hf : formOk (encL e v q kind b ++ r) = true := by
    rw [formOk_iff, f1, f2, hT]
    refine ⟨by rw [List.length_append, hl]; omega, hb, by rw [List.length_append, hl]; omega, h0, ?_, ?_⟩
    · unfold encL
      rw [List.append_assoc, ← hp, List.take_left]
    · have hx : encL e v q kind b ++ r = (preL e v q kind b ++ putL (sum32 (preL e v q kind b)).toNat 4) ++ ([0, 0, 0, 48] ++ r) := by
        unfold encL
        rw [sumW_parts, ← List.append_assoc, List.append_assoc]
      have hln : (preL e v q kind b ++ putL (sum32 (preL e v q kind b)).toNat 4).length = sizeN b.length - 4 := by rw [List.length_append, hp, putL_length]; omega
      rw [hx, ← hln, List.drop_left]
      rfl
  refine ⟨hf, ?_⟩
  rw [sumOk_iff _ hf, hE, f1, ← hl, List.take_left]
omit h0 in
/-- No shorter part is one. -/
theorem dec_short (n : Nat) (hn : n < sizeN b.length) : formOk ((encL e v q kind b).take n) = false := by
  cases h : formOk ((encL e v q kind b).take n) with
  | false => rfl
  | true =>
    exfalso
    obtain ⟨h1, h2, h3, h4, h5, h6⟩ := (formOk_iff _).1 h
    have hl := encL_len e v q kind b
    rw [List.length_take] at h1 h3
    have hd : dLen ((encL e v q kind b).take n) = b.length := by
      have := (dec_fields e v q kind b he hv hq hk hb []).1
      rw [List.append_nil] at this
      rw [← this]
      unfold dLen
      congr 1
      apply ext_bt
      · simp [decHead]; omega
      · intro i hi
        rw [List.length_take] at hi
        rw [bt_take, bt_take, decHead_bt _ (by rw [List.length_take]; omega) _ (by omega), decHead_bt _ (by omega) _ (by omega), bt_take]
        have i2 : i < 2 := by omega
        rw [if_pos i2, if_pos i2, if_pos (by omega)]
    rw [hd] at h3
    omega
omit h0 in
/-- A byte that is another one, behind the first two: no record is told. -/
theorem dec_turned (x : List UInt8) (p : Nat) (hx : x.length = sizeN b.length) (h2p : 2 ≤ p) (_hpl : p < sizeN b.length) (hne : bt x p ≠ bt (encL e v q kind b) p) (heq : ∀ i, i ≠ p → bt x i = bt (encL e v q kind b) i) : ¬ (formOk x = true ∧ sumOk x = true) := by
  rintro ⟨hf, hs⟩
  have hz := size_ge b.length
  obtain ⟨h1, h2, h3, h4, h5, h6⟩ := (formOk_iff x).1 hf
  rw [sumOk_iff x hf] at hs
  have hl := encL_len e v q kind b
  have hd : dLen x = b.length := by
    have := (dec_fields e v q kind b he hv hq hk hb []).1
    rw [List.append_nil] at this
    rw [← this]
    unfold dLen
    congr 1
    apply ext_bt
    · simp [decHead]; omega
    · intro i hi
      have : i < 2 := by have := List.length_take_le 2 (decHead x); omega
      rw [bt_take, bt_take, decHead_bt _ h1 _ (by omega), decHead_bt _ (by omega) _ (by omega), heq _ (by omega)]
  rw [hd] at hs
  rw [List.take_of_length_le (by omega), encT_eq] at hs
  have hT : (preT x).length = sizeN b.length - 8 := by rw [preT_len, hd]
  have hP := preL_len e v q kind b
  have hB : encL e v q kind b = preL e v q kind b ++ sumW (preL e v q kind b) := rfl
  by_cases c : sizeN b.length - 8 ≤ p
  · have e1 : preT x = preL e v q kind b := by
      apply ext_bt (by omega)
      intro i hi
      have a := heq i (by omega)
      rw [← hs, hB, bt_append, bt_append, if_pos hi, if_pos (by omega)] at a
      exact a
    apply hne
    rw [← hs, hB, e1]
  · have e2 : sumW (preT x) = sumW (preL e v q kind b) := by
      apply ext_bt (by rw [sumW_len, sumW_len])
      intro i hi
      rw [sumW_len] at hi
      have a := heq (sizeN b.length - 8 + i) (by omega)
      rw [← hs, hB, bt_append, bt_append, if_neg (by omega), if_neg (by omega), hT, hP, show sizeN b.length - 8 + i - (sizeN b.length - 8) = i by omega] at a
      exact a
    rw [sumW_parts, sumW_parts] at e2
    have e3 := putL_inj4 (sum_lt _) (sum_lt _) (List.append_cancel_right e2)
    have e4 : sum32 (preT x) = sum32 (preL e v q kind b) := BitVec.eq_of_toNat_eq e3
    have hpx : p < (preT x).length := by omega
    have hpb : p < (preL e v q kind b).length := by omega
    have dx : preT x = (preT x).take p ++ bt (preT x) p :: (preT x).drop (p + 1) := by
      rw [bt_get _ _ hpx, ← List.drop_eq_getElem_cons hpx, List.take_append_drop]
    have db : preL e v q kind b = (preL e v q kind b).take p ++ bt (preL e v q kind b) p :: (preL e v q kind b).drop (p + 1) := by
      rw [bt_get _ _ hpb, ← List.drop_eq_getElem_cons hpb, List.take_append_drop]
    have qq : ∀ i, i ≠ p → i < sizeN b.length - 8 → bt (preT x) i = bt (preL e v q kind b) i := fun i hi hl => by
      have a := heq i hi
      rw [← hs, hB, bt_append, bt_append, if_pos (by omega), if_pos (by omega)] at a
      exact a
    have qt : (preT x).take p = (preL e v q kind b).take p := by
      apply ext_bt
      · simp; omega
      · intro i hi
        rw [List.length_take] at hi
        rw [bt_take, bt_take, if_pos (by omega), if_pos (by omega), qq i (by omega) (by omega)]
    have qd : (preT x).drop (p + 1) = (preL e v q kind b).drop (p + 1) := by
      apply ext_bt
      · simp; omega
      · intro i hi
        rw [List.length_drop] at hi
        rw [bt_drop, bt_drop, qq _ (by omega) (by omega)]
    have hne2 : bt (preT x) p ≠ bt (preL e v q kind b) p := by
      intro h
      apply hne
      rw [← hs, hB, bt_append, bt_append, if_pos hpx, if_pos hpb, h]
    rw [dx, db, qt, qd] at e4
    exact sum32_tells _ _ _ _ hne2 e4
end

/-! ### Marks -/
theorem form_mark (s : List UInt8) (h : bt s 7 ≠ 17) : formOk s = false := by
  cases hf : formOk s with
  | false => rfl
  | true =>
    exfalso
    obtain ⟨h1, h2, h3, h4, h5, h6⟩ := (formOk_iff s).1 hf
    have hz := size_ge (dLen s)
    apply h
    have : bt (s.take (sizeN (dLen s) - 8)) 7 = 17 := by
      rw [← h5]
      unfold preT preL
      rw [preK_bt _ _ _ _ (by omega)]
      rfl
    rwa [bt_take, if_pos (by omega)] at this
theorem markN_ne (w : Nat) (h : 0 < w) : markN w ≠ 17 := by
  unfold markN
  rw [if_neg (by omega)]
  split
  · decide
  · split <;> decide
theorem enc_mark (e v q kind : Nat) (b : List UInt8) (w : Nat) (h0 : 0 < w) (hw : 8 * w + 8 ≤ sizeN b.length) : bt (encL e v q kind b) (8 * w + 7) ≠ 17 := by
  unfold encL
  rw [bt_append, preL_len]
  have hz := size_ge b.length
  have hS : sizeN b.length = 8 * nW b.length + 32 := rfl
  split
  · unfold preL
    rw [preK_bt _ _ _ _ (by omega)]
    unfold encF
    rw [if_pos (by omega)]
    exact markN_ne _ (by omega)
  · unfold sumW
    rw [wordL_bt _ _ (by simp [putL_length]) _ (by omega), if_pos (by omega)]
    decide

end Go.Proofs.YtpkhfdcokcchdabDoor
