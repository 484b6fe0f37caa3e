/-
  Layer 5: a bank and its table agree, and a write on a device that is on keeps that.
-/
import Derived.Test.YtdgcninmpcmdcaaGreatMgE
import Derived.Test.YtdgcninmpcmdcaaGreatMgH
import Derived.Test.YtdgcninmpcmdcaaGreatCrcPure2
namespace Go.Proofs.YtdgcninmpcmdcaaGreat
open Go.RowKit

theorem low_guard {n : Nat} (h : n < 281474976710656) : low48 (guardN n) = n := by
  apply Nat.eq_of_testBit_eq
  intro i
  unfold low48
  rw [show (281474976710656 : Nat) = 2 ^ 48 from rfl, Nat.testBit_mod_two_pow]
  by_cases c : i < 48
  · rw [guard_bit n i (by omega), if_neg (by omega), decide_eq_true c, Bool.true_and]
  · rw [decide_eq_false c, Bool.false_and]
    symm
    apply Nat.testBit_lt_two_pow
    exact Nat.lt_of_lt_of_le h (Nat.pow_le_pow_right (n := 2) (by omega) (show 48 ≤ i by omega))
theorem guard_guard {n : Nat} (h : n < 281474976710656) : guardN (guardN n) = guardN n := by
  have hl : guardN n < 2 ^ 64 := guardN_lt n (by omega)
  have hl2 : guardN (guardN n) < 2 ^ 64 := guardN_lt _ (guardN_lt n (by omega))
  have hp : putL (guardN n) 6 = putL n 6 := putL_eq_of_bits fun i hi => by rw [guard_bit n i (by omega), if_neg (by omega)]
  apply Nat.eq_of_testBit_eq
  intro i
  by_cases c : i < 64
  · rw [guard_bit (guardN n) i c, check_congr hp]
    by_cases d : 48 ≤ i
    · rw [if_pos d, guard_bit n i c, if_pos d]
    · rw [if_neg d]
  · rw [Nat.testBit_lt_two_pow (Nat.lt_of_lt_of_le hl (Nat.pow_le_pow_right (n := 2) (by omega) (show 64 ≤ i by omega))), Nat.testBit_lt_two_pow (Nat.lt_of_lt_of_le hl2 (Nat.pow_le_pow_right (n := 2) (by omega) (show 64 ≤ i by omega)))]
section
variable {p : PlanZ} {D D' : DevS}
theorem openS_add (r2 : Nat) : ∀ (r1 k : Nat) (B B' : BkS), openS p D r1 k B = (0, B') → openS p D (r1 + r2) k B = openS p D r2 (k + r1) B'
  | 0, k, B, B', h => by
    have : B = B' := (Prod.mk.inj h).2
    rw [this, Nat.zero_add, Nat.add_zero]
  | r1 + 1, k, B, B', h => by
    rw [openS] at h
    rw [show r1 + 1 + r2 = (r1 + r2) + 1 by omega, openS]
    by_cases c : (noteS p k (loadV D (8 * p.a.toNat + k)) B).1 ≠ 0
    · rw [if_pos c] at h
      cases h
    · rw [if_neg c] at h ⊢
      rw [openS_add r2 r1 (k + 1) _ _ h, show k + 1 + r1 = k + (r1 + 1) by omega]
theorem openS_zero : ∀ (r k : Nat) (B : BkS), (∀ j, j < r → loadV D (8 * p.a.toNat + (k + j)) = 0) → openS p D r k B = (0, B)
  | 0, _, _, _ => rfl
  | r + 1, k, B, h => by
    have h0 := h 0 (by omega)
    rw [Nat.add_zero] at h0
    rw [openS, h0]
    show openS p D r (k + 1) B = (0, B)
    exact openS_zero r (k + 1) B fun j hj => by rw [show k + 1 + j = k + (j + 1) by omega]; exact h (j + 1) (by omega)
theorem openS_congr : ∀ (r k : Nat) (B : BkS), (∀ j, j < r → loadV D (8 * p.a.toNat + (k + j)) = loadV D' (8 * p.a.toNat + (k + j))) → openS p D r k B = openS p D' r k B
  | 0, _, _, _ => rfl
  | r + 1, k, B, h => by
    have h0 := h 0 (by omega)
    rw [Nat.add_zero] at h0
    rw [openS, openS, h0, openS_congr r (k + 1) _ fun j hj => by rw [show k + 1 + j = k + (j + 1) by omega]; exact h (j + 1) (by omega)]
end
/-- A bank is what its table says. -/
structure TI (p : PlanZ) (D : DevS) (B : BkS) : Prop where
  calm : Calm D
  fits : p.a + sizeZ p ≤ (D.n : Int)
  us : (B.used : Int) ≤ p.s
  rg : ∀ x k, B.wh x = some k → ((k : Nat) : Int) < p.s
  free : ∀ k : Nat, B.used ≤ k → (k : Int) < p.s → D.med (8 * p.a.toNat + k) = 0
  op : openS p D B.used 0 ⟨0, fun _ => none⟩ = (0, B)
  tb : ∀ l : Nat, p.a ≤ (l : Int) → (l : Int) < p.a + tabZ p → D.bad l = false
section
variable {p : PlanZ} {D : DevS} {B : BkS} {s : ByteArray} {i : Int}
theorem TI.opens (h : TI p D B) : openS p D p.s.toNat 0 ⟨0, fun _ => none⟩ = (0, B) := by
  have hu := h.us
  have e : p.s.toNat = B.used + (p.s.toNat - B.used) := by omega
  rw [e, openS_add _ _ _ _ _ h.op, Nat.zero_add]
  exact openS_zero _ _ _ fun j hj => by rw [calm_load h.calm]; exact h.free _ (by omega) (by omega)
theorem TI.zero (hp : okZ p = true) (h : Zero D) (hf : p.a + sizeZ p ≤ (D.n : Int)) (hb : D.bad = fun _ => false) : TI p D ⟨0, fun _ => none⟩ :=
  ⟨h.calm, hf, ((okZ_iff p).1 hp).2.2.2.2.1, (fun x k e => by cases e), (fun k _ _ => h.med _), rfl, (fun l _ _ => by rw [hb])⟩
/-- A line that is no table's is written, or a line breaks. -/
theorem TI.keep {D' : DevS} (h : TI p D B) (hc : Calm D') (hn : D'.n = D.n) (hm : ∀ x : Nat, (x : Int) < 8 * (p.a + tabZ p) → D'.med x = D.med x) (hok : okZ p = true) (hb : ∀ l : Nat, p.a ≤ (l : Int) → (l : Int) < p.a + tabZ p → D'.bad l = false) : TI p D' B := by
  obtain ⟨h1, h2, h3, h4, h5, h6⟩ := (okZ_iff p).1 hok
  have ht : 8 * tabZ p ≥ p.s := by unfold tabZ; omega
  have hu := h.us
  refine ⟨hc, by rw [hn]; exact h.fits, h.us, h.rg, fun k h1 h2 => by rw [hm _ (by omega)]; exact h.free k h1 h2, ?_, hb⟩
  rw [← openS_congr (D := D) (D' := D')]
  · exact h.op
  · intro j hj
    rw [calm_load h.calm, calm_load hc, hm _ (by omega)]
theorem rep_calm (h : TI p D B) (hok : okZ p = true) (hi : inP p i) (hs : s.size = 64) (hu : (B.used : Int) < p.s) :
    ∃ t E B', replaceS p i s D B = ⟨t, 0, E, B'⟩ ∧ TI p E B' ∧ E.n = D.n ∧ E.bad = D.bad ∧ B'.used = B.used + 1 := by
  obtain ⟨h1, h2, h3, h4, h5, h6⟩ := (okZ_iff p).1 hok
  obtain ⟨i0, i9⟩ : 0 ≤ i ∧ i < p.l := hi
  have ht : 8 * tabZ p ≥ p.s := by unfold tabZ; omega
  have ht0 : 0 ≤ tabZ p := by unfold tabZ; omega
  have hsz : sizeZ p = tabZ p + p.l + p.s := by unfold sizeZ; rw [if_pos hok]
  have hfit := h.fits
  obtain ⟨l, hl⟩ : ∃ l : Nat, spareP p B.used = (l : Int) := ⟨(spareP p B.used).toNat, by unfold spareP; omega⟩
  have hl2 : p.a + tabZ p ≤ (l : Int) ∧ l < D.n := by rw [← hl]; unfold spareP; constructor; omega; have : ((spareP p B.used).toNat : Int) = spareP p B.used := by { unfold spareP; omega }; unfold spareP at hl; omega
  obtain ⟨E2, e2, s2⟩ := put_calm (l := l) h.calm hl2.2 hs
  have T2 : TI p E2 B := h.keep s2.calm s2.n (fun x hx => by rw [s2.med, if_neg (by omega)]) hok (fun l' q1 q2 => by rw [s2.bad]; exact h.tb l' q1 q2)
  obtain ⟨m, hm⟩ : ∃ m, m = markN E2 (l : Int) i s := ⟨_, rfl⟩
  have hm2 : (tookB E2 (l : Int) s = true ∧ m = i.toNat + 1) ∨ (tookB E2 (l : Int) s = false ∧ m = 65535) := by
    rw [hm]; unfold markN
    cases tookB E2 (l : Int) s with
    | true => exact .inl ⟨rfl, rfl⟩
    | false => exact .inr ⟨rfl, rfl⟩
  have hmb : m < 281474976710656 ∧ m ≠ 0 := by rcases hm2 with ⟨_, q⟩ | ⟨_, q⟩ <;> omega
  obtain ⟨aN, haN⟩ : ∃ aN : Nat, p.a = (aN : Int) := ⟨p.a.toNat, by omega⟩
  have q2 : p.a + (B.used : Int) / 8 = ((aN + B.used / 8 : Nat) : Int) := by omega
  have q3 : (B.used : Int) % 8 = ((B.used % 8 : Nat) : Int) := by omega
  obtain ⟨E4, e4, s4⟩ := putword_calm (D := E2) (l := aN + B.used / 8) (k := B.used % 8) (v := guardN m) s2.calm (by rw [s2.n]; omega) (by omega)
  have hbt : E2.bad (aN + B.used / 8) = false := T2.tb _ (by omega) (by omega)
  have hm4 : ∀ x, E4.med x = if x = 8 * aN + B.used then guardN m else E2.med x := fun x => by
    rw [s4.med, hbt]
    by_cases c : x = 8 * aN + B.used
    · rw [if_pos c, if_pos ⟨by omega, by omega, rfl⟩]
    · rw [if_neg c, if_neg (by omega)]
  have haT : p.a.toNat = aN := by omega
  have hlow := low_guard hmb.1
  have hgg := guard_guard hmb.1
  have hg0 : guardN m ≠ 0 := fun e => by rw [e] at hlow; exact hmb.2 (by rw [← hlow]; rfl)
  have hnote : noteS p B.used (guardN m) B = (0, ⟨B.used + 1, if tookB E2 (l : Int) s then updZ B.wh i (some B.used) else B.wh⟩) := by
    unfold noteS
    rw [if_neg hg0, if_neg]
    · unfold noteB
      rw [hlow]
      rcases hm2 with ⟨t, q⟩ | ⟨t, q⟩
      · rw [t, if_neg (by omega), q]
        rw [show ((i.toNat + 1 : Nat) : Int) - 1 = i by omega]
        rfl
      · rw [t, if_pos q]
        rfl
    · unfold noteBad
      rw [hgg, hlow]
      rintro (c | c | c | c)
      · exact c rfl
      · omega
      · exact hmb.2 c
      · rcases hm2 with ⟨t, q⟩ | ⟨t, q⟩ <;> omega
  refine ⟨tookB E2 (l : Int) s, E4, ⟨B.used + 1, if tookB E2 (l : Int) s then updZ B.wh i (some B.used) else B.wh⟩, ?_, ?_, by rw [s4.n, s2.n], by rw [s4.bad, s2.bad], rfl⟩
  · unfold replaceS
    rw [hl, q2, q3, e2]
    simp only
    rw [← hm, e4]
    rfl
  · refine ⟨s4.calm, by rw [s4.n, s2.n]; exact h.fits, by show ((B.used + 1 : Nat) : Int) ≤ p.s; omega, ?_, ?_, ?_, fun l' q1 q2 => by rw [s4.bad]; exact T2.tb l' q1 q2⟩
    · intro x k hx
      rcases hm2 with ⟨t, q⟩ | ⟨t, q⟩
      · rw [t] at hx
        simp only [if_true, updZ] at hx
        split at hx
        · injection hx with hx; rw [← hx]; exact hu
        · exact h.rg x k hx
      · rw [t] at hx
        exact h.rg x k hx
    · intro k hk1 hk2
      have : B.used + 1 ≤ k := hk1
      rw [haT, hm4, if_neg (by omega), ← haT]
      exact T2.free k (by omega) hk2
    · show openS p E4 (B.used + 1) 0 ⟨0, fun _ => none⟩ = _
      rw [openS_add 1 B.used 0 _ B]
      · rw [openS, Nat.zero_add, calm_load s4.calm, haT, hm4, if_pos rfl, hnote]
        rfl
      · rw [← openS_congr (D := E2) (D' := E4)]
        · exact T2.op
        · intro j hj
          rw [calm_load s2.calm, calm_load s4.calm, haT, hm4, if_neg (by omega)]
theorem ens_calm (hok : okZ p = true) (hi : inP p i) (hs : s.size = 64) : ∀ (n : Nat) (D : DevS) (B : BkS), TI p D B → (B.used : Int) + (n : Int) ≤ p.s → ∃ e E B', ensS p i s n D B = (e, E, B') ∧ TI p E B' ∧ E.n = D.n ∧ E.bad = D.bad
  | 0, D, B, h, _ => ⟨10, D, B, rfl, h, rfl, rfl⟩
  | n + 1, D, B, h, hu => by
    obtain ⟨t, E, B', r, t1, t2, t3, t4⟩ := rep_calm h hok hi hs (by omega)
    rw [ensS, r]
    cases t with
    | true => exact ⟨0, E, B', by simp, t1, t2, t3⟩
    | false =>
      obtain ⟨e, E', B'', q1, q2, q3, q4⟩ := ens_calm hok hi hs n E B' t1 (by rw [t4]; omega)
      exact ⟨e, E', B'', by simpa using q1, q2, q3.trans t2, q4.trans t3⟩
theorem write_calm (h : TI p D B) (hok : okZ p = true) (hi : inP p i) (hs : s.size = 64) : ∃ e E B', writeS p i s D B = (e, E, B') ∧ TI p E B' ∧ E.n = D.n ∧ E.bad = D.bad := by
  obtain ⟨h1, h2, h3, h4, h5, h6⟩ := (okZ_iff p).1 hok
  obtain ⟨i0, i9⟩ : 0 ≤ i ∧ i < p.l := hi
  have ht0 : 0 ≤ tabZ p := by unfold tabZ; omega
  have hsz : sizeZ p = tabZ p + p.l + p.s := by unfold sizeZ; rw [if_pos hok]
  have hfit := h.fits
  have hus := h.us
  obtain ⟨l, hl, hl1, hl2⟩ : ∃ l : Nat, placeP p B i = (l : Int) ∧ p.a + tabZ p ≤ (l : Int) ∧ l < D.n := by
    unfold placeP
    cases e : B.wh i with
    | some k =>
      have := h.rg i k e
      exact ⟨(spareP p k).toNat, by simp only; unfold spareP; omega, by unfold spareP; omega, by unfold spareP; omega⟩
    | none => exact ⟨(lineP p i).toNat, by simp only; unfold lineP; omega, by unfold lineP; omega, by unfold lineP; omega⟩
  obtain ⟨E2, e2, s2⟩ := put_calm (l := l) h.calm hl2 hs
  have T2 : TI p E2 B := h.keep s2.calm s2.n (fun x hx => by rw [s2.med, if_neg (by omega)]) hok (fun l' q1 q2 => by rw [s2.bad]; exact h.tb l' q1 q2)
  have hw : writeS p i s D B = ensureS p i (l : Int) s E2 B := by
    unfold writeS
    rw [if_neg (by simp [hs]), if_pos ⟨i0, i9⟩, hl, e2]
    show (if (0 : Int) ≠ 0 then _ else _) = _
    rw [if_neg (by simp)]
  rw [hw]
  unfold ensureS
  cases tookB E2 (l : Int) s with
  | true => exact ⟨0, E2, B, rfl, T2, s2.n, s2.bad⟩
  | false =>
    obtain ⟨e, E, B', q1, q2, q3, q4⟩ := ens_calm hok ⟨i0, i9⟩ hs (p.s - (B.used : Int)).toNat E2 B T2 (by omega)
    exact ⟨e, E, B', q1, q2, q3.trans s2.n, q4.trans s2.bad⟩
end
end Go.Proofs.YtdgcninmpcmdcaaGreat
