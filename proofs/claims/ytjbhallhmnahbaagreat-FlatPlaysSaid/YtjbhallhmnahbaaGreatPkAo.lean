/-
  PkAo: CrcPure2, SpU, SpAb, SpAc, SpF.
-/
import Derived.Test.YtjbhallhmnahbaaGreatPkAl
import Derived.Test.YtjbhallhmnahbaaGreatPkAn
import Derived.Test.YtjbhallhmnahbaaGreatPkAm
import Derived.Test.YtjbhallhmnahbaaGreatPkAf
import Derived.Deep.CutBlock

set_option linter.unusedVariables false

/-
  Plain lemmas on guarded words: one bit another one.
-/
namespace Go.Proofs.YtjbhallhmnahbaaGreat
open Go.RowKit

theorem mod_eq_of_bits {a b k : Nat} (h : ∀ i, i < k → a.testBit i = b.testBit i) : a % 2 ^ k = b % 2 ^ k := by
  apply Nat.eq_of_testBit_eq
  intro i
  rw [Nat.testBit_mod_two_pow, Nat.testBit_mod_two_pow]
  by_cases c : i < k
  · simp [c, h i c]
  · simp [c]
theorem putL_eq_of_bits {a b k : Nat} (h : ∀ i, i < 8 * k → a.testBit i = b.testBit i) : putL a k = putL b k := by
  have e : a % 256 ^ k = b % 256 ^ k := by
    rw [← two_pow_8]; exact mod_eq_of_bits h
  rw [← putL_mod a k k (Nat.le_refl _), ← putL_mod b k k (Nat.le_refl _), e]
theorem guard_bit (n : Nat) (i : Nat) (hi : i < 64) : (guardN n).testBit i = if 48 ≤ i then (n16 (check n)).testBit (i - 48) else n.testBit i := by
  unfold guardN
  rw [withN_testBit _ _ _ _ (by unfold okF; omega)]
  have e1 : (48 : Int).toNat = 48 := rfl
  have e2 : (16 : Int).toNat = 16 := rfl
  rw [e1, e2]
  by_cases c : 48 ≤ i
  · rw [if_pos (by omega), if_pos c]
  · rw [if_neg (by omega), if_neg c]
theorem check_congr {a b : Nat} (h : putL a 6 = putL b 6) : check a = check b := by unfold check; rw [h]
end Go.Proofs.YtjbhallhmnahbaaGreat

/-
  Layer 5: a bank and its table agree, and a write on a device that is on keeps that.
-/
namespace Go.Proofs.YtjbhallhmnahbaaGreat
open Go.RowKit

theorem low_guard {n : Nat} (h : n < 281474976710656) : low48 (guardN n) = n := by
  apply Nat.eq_of_testBit_eq
  intro i
  unfold low48
  rw [show (281474976710656 : Nat) = 2 ^ 48 from rfl, Nat.testBit_mod_two_pow]
  by_cases c : i < 48
  · rw [guard_bit n i (by omega), if_neg (by omega), decide_eq_true c, Bool.true_and]
  · rw [decide_eq_false c, Bool.false_and]
    symm
    apply Nat.testBit_lt_two_pow
    exact Nat.lt_of_lt_of_le h (Nat.pow_le_pow_right (n := 2) (by omega) (show 48 ≤ i by omega))
theorem guard_guard {n : Nat} (h : n < 281474976710656) : guardN (guardN n) = guardN n := by
  have hl : guardN n < 2 ^ 64 := guardN_lt n (by omega)
  have hl2 : guardN (guardN n) < 2 ^ 64 := guardN_lt _ (guardN_lt n (by omega))
  have hp : putL (guardN n) 6 = putL n 6 := putL_eq_of_bits fun i hi => by rw [guard_bit n i (by omega), if_neg (by omega)]
  apply Nat.eq_of_testBit_eq
  intro i
  by_cases c : i < 64
  · rw [guard_bit (guardN n) i c, check_congr hp]
    by_cases d : 48 ≤ i
    · rw [if_pos d, guard_bit n i c, if_pos d]
    · rw [if_neg d]
  · rw [Nat.testBit_lt_two_pow (Nat.lt_of_lt_of_le hl (Nat.pow_le_pow_right (n := 2) (by omega) (show 64 ≤ i by omega))), Nat.testBit_lt_two_pow (Nat.lt_of_lt_of_le hl2 (Nat.pow_le_pow_right (n := 2) (by omega) (show 64 ≤ i by omega)))]
section
variable {p : PlanZ} {D D' : DevS}
theorem openS_add (r2 : Nat) : ∀ (r1 k : Nat) (B B' : BkS), openS p D r1 k B = (0, B') → openS p D (r1 + r2) k B = openS p D r2 (k + r1) B'
  | 0, k, B, B', h => by
    have : B = B' := (Prod.mk.inj h).2
    rw [this, Nat.zero_add, Nat.add_zero]
  | r1 + 1, k, B, B', h => by
    rw [openS] at h
    rw [show r1 + 1 + r2 = (r1 + r2) + 1 by omega, openS]
    by_cases c : (noteS p k (loadV D (8 * p.a.toNat + k)) B).1 ≠ 0
    · rw [if_pos c] at h
      cases h
    · rw [if_neg c] at h ⊢
      rw [openS_add r2 r1 (k + 1) _ _ h, show k + 1 + r1 = k + (r1 + 1) by omega]
theorem openS_zero : ∀ (r k : Nat) (B : BkS), (∀ j, j < r → loadV D (8 * p.a.toNat + (k + j)) = 0) → openS p D r k B = (0, B)
  | 0, _, _, _ => rfl
  | r + 1, k, B, h => by
    have h0 := h 0 (by omega)
    rw [Nat.add_zero] at h0
    rw [openS, h0]
    show openS p D r (k + 1) B = (0, B)
    exact openS_zero r (k + 1) B fun j hj => by rw [show k + 1 + j = k + (j + 1) by omega]; exact h (j + 1) (by omega)
theorem openS_congr : ∀ (r k : Nat) (B : BkS), (∀ j, j < r → loadV D (8 * p.a.toNat + (k + j)) = loadV D' (8 * p.a.toNat + (k + j))) → openS p D r k B = openS p D' r k B
  | 0, _, _, _ => rfl
  | r + 1, k, B, h => by
    have h0 := h 0 (by omega)
    rw [Nat.add_zero] at h0
    rw [openS, openS, h0, openS_congr r (k + 1) _ fun j hj => by rw [show k + 1 + j = k + (j + 1) by omega]; exact h (j + 1) (by omega)]
end
structure TI (p : PlanZ) (D : DevS) (B : BkS) : Prop where
  calm : Calm D
  fits : p.a + sizeZ p ≤ (D.n : Int)
  us : (B.used : Int) ≤ p.s
  rg : ∀ x k, B.wh x = some k → ((k : Nat) : Int) < p.s
  free : ∀ k : Nat, B.used ≤ k → (k : Int) < p.s → D.med (8 * p.a.toNat + k) = 0
  op : openS p D B.used 0 ⟨0, fun _ => none⟩ = (0, B)
  tb : ∀ l : Nat, p.a ≤ (l : Int) → (l : Int) < p.a + tabZ p → D.bad l = false
section
variable {p : PlanZ} {D : DevS} {B : BkS} {s : ByteArray} {i : Int}
theorem TI.opens (h : TI p D B) : openS p D p.s.toNat 0 ⟨0, fun _ => none⟩ = (0, B) := by
  have hu := h.us
  have e : p.s.toNat = B.used + (p.s.toNat - B.used) := by omega
  rw [e, openS_add _ _ _ _ _ h.op, Nat.zero_add]
  exact openS_zero _ _ _ fun j hj => by rw [calm_load h.calm]; exact h.free _ (by omega) (by omega)
theorem TI.keep {D' : DevS} (h : TI p D B) (hc : Calm D') (hn : D'.n = D.n) (hm : ∀ x : Nat, (x : Int) < 8 * (p.a + tabZ p) → D'.med x = D.med x) (hok : okZ p = true) (hb : ∀ l : Nat, p.a ≤ (l : Int) → (l : Int) < p.a + tabZ p → D'.bad l = false) : TI p D' B := by
  obtain ⟨h1, h2, h3, h4, h5, h6⟩ := (okZ_iff p).1 hok
  have ht : 8 * tabZ p ≥ p.s := by unfold tabZ; omega
  have hu := h.us
  refine ⟨hc, by rw [hn]; exact h.fits, h.us, h.rg, fun k h1 h2 => by rw [hm _ (by omega)]; exact h.free k h1 h2, ?_, hb⟩
  rw [← openS_congr (D := D) (D' := D')]
  · exact h.op
  · intro j hj
    rw [calm_load h.calm, calm_load hc, hm _ (by omega)]
theorem rep_calm (h : TI p D B) (hok : okZ p = true) (hi : inP p i) (hs : s.size = 64) (hu : (B.used : Int) < p.s) :
    ∃ t E B', replaceS p i s D B = ⟨t, 0, E, B'⟩ ∧ TI p E B' ∧ E.n = D.n ∧ E.bad = D.bad ∧ B'.used = B.used + 1 := by
  obtain ⟨h1, h2, h3, h4, h5, h6⟩ := (okZ_iff p).1 hok
  obtain ⟨i0, i9⟩ : 0 ≤ i ∧ i < p.l := hi
  have ht : 8 * tabZ p ≥ p.s := by unfold tabZ; omega
  have ht0 : 0 ≤ tabZ p := by unfold tabZ; omega
  have hsz : sizeZ p = tabZ p + p.l + p.s := by unfold sizeZ; rw [if_pos hok]
  have hfit := h.fits
  obtain ⟨l, hl⟩ : ∃ l : Nat, spareP p B.used = (l : Int) := ⟨(spareP p B.used).toNat, by unfold spareP; omega⟩
  have hl2 : p.a + tabZ p ≤ (l : Int) ∧ l < D.n := by rw [← hl]; unfold spareP; constructor; omega; have : ((spareP p B.used).toNat : Int) = spareP p B.used := by { unfold spareP; omega }; unfold spareP at hl; omega
  obtain ⟨E2, e2, s2⟩ := put_calm (l := l) h.calm hl2.2 hs
  have T2 : TI p E2 B := h.keep s2.calm s2.n (fun x hx => by rw [s2.med, if_neg (by omega)]) hok (fun l' q1 q2 => by rw [s2.bad]; exact h.tb l' q1 q2)
  obtain ⟨m, hm⟩ : ∃ m, m = markN E2 (l : Int) i s := ⟨_, rfl⟩
  have hm2 : (tookB E2 (l : Int) s = true ∧ m = i.toNat + 1) ∨ (tookB E2 (l : Int) s = false ∧ m = 65535) := by
    rw [hm]; unfold markN
    cases tookB E2 (l : Int) s with
    | true => exact .inl ⟨rfl, rfl⟩
    | false => exact .inr ⟨rfl, rfl⟩
  have hmb : m < 281474976710656 ∧ m ≠ 0 := by rcases hm2 with ⟨_, q⟩ | ⟨_, q⟩ <;> omega
  obtain ⟨aN, haN⟩ : ∃ aN : Nat, p.a = (aN : Int) := ⟨p.a.toNat, by omega⟩
  have q2 : p.a + (B.used : Int) / 8 = ((aN + B.used / 8 : Nat) : Int) := by omega
  have q3 : (B.used : Int) % 8 = ((B.used % 8 : Nat) : Int) := by omega
  obtain ⟨E4, e4, s4⟩ := putword_calm (D := E2) (l := aN + B.used / 8) (k := B.used % 8) (v := guardN m) s2.calm (by rw [s2.n]; omega) (by omega)
  have hbt : E2.bad (aN + B.used / 8) = false := T2.tb _ (by omega) (by omega)
  have hm4 : ∀ x, E4.med x = if x = 8 * aN + B.used then guardN m else E2.med x := fun x => by
    rw [s4.med, hbt]
    by_cases c : x = 8 * aN + B.used
    · rw [if_pos c, if_pos ⟨by omega, by omega, rfl⟩]
    · rw [if_neg c, if_neg (by omega)]
  have haT : p.a.toNat = aN := by omega
  have hlow := low_guard hmb.1
  have hgg := guard_guard hmb.1
  have hg0 : guardN m ≠ 0 := fun e => by rw [e] at hlow; exact hmb.2 (by rw [← hlow]; rfl)
  have hnote : noteS p B.used (guardN m) B = (0, ⟨B.used + 1, if tookB E2 (l : Int) s then updZ B.wh i (some B.used) else B.wh⟩) := by
    unfold noteS
    rw [if_neg hg0, if_neg]
    · unfold noteB
      rw [hlow]
      rcases hm2 with ⟨t, q⟩ | ⟨t, q⟩
      · rw [t, if_neg (by omega), q]
        rw [show ((i.toNat + 1 : Nat) : Int) - 1 = i by omega]
        rfl
      · rw [t, if_pos q]
        rfl
    · unfold noteBad
      rw [hgg, hlow]
      rintro (c | c | c | c)
      · exact c rfl
      · omega
      · exact hmb.2 c
      · rcases hm2 with ⟨t, q⟩ | ⟨t, q⟩ <;> omega
  refine ⟨tookB E2 (l : Int) s, E4, ⟨B.used + 1, if tookB E2 (l : Int) s then updZ B.wh i (some B.used) else B.wh⟩, ?_, ?_, by rw [s4.n, s2.n], by rw [s4.bad, s2.bad], rfl⟩
  · unfold replaceS
    rw [hl, q2, q3, e2]
    simp only
    rw [← hm, e4]
    rfl
  · refine ⟨s4.calm, by rw [s4.n, s2.n]; exact h.fits, by show ((B.used + 1 : Nat) : Int) ≤ p.s; omega, ?_, ?_, ?_, fun l' q1 q2 => by rw [s4.bad]; exact T2.tb l' q1 q2⟩
    · intro x k hx
      rcases hm2 with ⟨t, q⟩ | ⟨t, q⟩
      · rw [t] at hx
        simp only [if_true, updZ] at hx
        split at hx
        · injection hx with hx; rw [← hx]; exact hu
        · exact h.rg x k hx
      · rw [t] at hx
        exact h.rg x k hx
    · intro k hk1 hk2
      have : B.used + 1 ≤ k := hk1
      rw [haT, hm4, if_neg (by omega), ← haT]
      exact T2.free k (by omega) hk2
    · show openS p E4 (B.used + 1) 0 ⟨0, fun _ => none⟩ = _
      rw [openS_add 1 B.used 0 _ B]
      · rw [openS, Nat.zero_add, calm_load s4.calm, haT, hm4, if_pos rfl, hnote]
        rfl
      · rw [← openS_congr (D := E2) (D' := E4)]
        · exact T2.op
        · intro j hj
          rw [calm_load s2.calm, calm_load s4.calm, haT, hm4, if_neg (by omega)]
theorem ens_calm (hok : okZ p = true) (hi : inP p i) (hs : s.size = 64) : ∀ (n : Nat) (D : DevS) (B : BkS), TI p D B → (B.used : Int) + (n : Int) ≤ p.s → ∃ e E B', ensS p i s n D B = (e, E, B') ∧ TI p E B' ∧ E.n = D.n ∧ E.bad = D.bad
  | 0, D, B, h, _ => ⟨10, D, B, rfl, h, rfl, rfl⟩
  | n + 1, D, B, h, hu => by
    obtain ⟨t, E, B', r, t1, t2, t3, t4⟩ := rep_calm h hok hi hs (by omega)
    rw [ensS, r]
    cases t with
    | true => exact ⟨0, E, B', by simp, t1, t2, t3⟩
    | false =>
      obtain ⟨e, E', B'', q1, q2, q3, q4⟩ := ens_calm hok hi hs n E B' t1 (by rw [t4]; omega)
      exact ⟨e, E', B'', by simpa using q1, q2, q3.trans t2, q4.trans t3⟩
end
end Go.Proofs.YtjbhallhmnahbaaGreat

/-
  Layer 5: what a Boot leaves of a Put that was cut, or of none.
-/
namespace Go.Proofs.YtjbhallhmnahbaaGreat
open Go.RowKit
set_option linter.unusedVariables false

theorem boot_calm (E : DevS) (L : List Nat) (kp : Nat → Bool) : Calm (bootD E L kp) := ⟨rfl, rfl, fun _ => rfl⟩
theorem bootS_mem {L : List Nat} {kp : Nat → Bool} {x : Nat} (h : bootS L kp x = true) : x ∈ L := by
  unfold bootS at h
  rw [List.any_eq_true] at h
  obtain ⟨j, _, hj⟩ := h
  rw [Bool.and_eq_true, decide_eq_true_eq] at hj
  exact List.mem_of_getElem? hj.2
theorem boot_live {E : DevS} {L : List Nat} (kp : Nat → Bool) (h : Live E) (hL : IsPend E L) : (bootD E L kp).med = E.med := by
  funext x
  show perMed E (bootS L kp) x = E.med x
  unfold perMed
  rw [if_neg]
  intro c
  exact (hL.2 x).1 (bootS_mem c.1) (h.buf _)
theorem boot_torn {D E : DevS} {B m : Nat} {f : Nat → Nat} {L : List Nat} (kp : Nat → Bool) (h : Torn D E B m f) (hL : IsPend E L) (x : Nat) :
    (bootD E L kp).med x = D.med x ∨ ∃ j, j < m ∧ x = B + j ∧ (bootD E L kp).med x = f j ∧ D.bad (x / 8) = false := by
  show perMed E (bootS L kp) x = _ ∨ ∃ j, j < m ∧ x = B + j ∧ perMed E (bootS L kp) x = f j ∧ _
  unfold perMed
  by_cases c : bootS L kp x = true ∧ E.bad (x / 8) = false
  · rw [if_pos c]
    have hne := (hL.2 x).1 (bootS_mem c.1)
    cases e : E.buf (x : Int) with
    | none => exact absurd e hne
    | some v =>
      obtain ⟨j, h1, h2, h3⟩ := h.pend _ _ e
      exact .inr ⟨j, h1, by omega, h3, by rw [← h.bad]; exact c.2⟩
  · rw [if_neg c, h.med]
    exact .inl rfl
def bare (D : DevS) : DevS := { D with buf := fun _ => none, fuse := 0, off := false }
theorem bare_calm (D : DevS) : Calm (bare D) := ⟨rfl, rfl, fun _ => rfl⟩
theorem TI.congr {p : PlanZ} {D D' : DevS} {B : BkS} (h : TI p D B) (hok : okZ p = true) (hc : Calm D') (hn : D'.n = D.n) (hb : D'.bad = D.bad) (hm : D'.med = D.med) : TI p D' B :=
  h.keep hc hn (fun x _ => by rw [hm]) hok (fun l q1 q2 => by rw [hb]; exact h.tb l q1 q2)
section
variable {p : PlanZ} {D : DevS} {B : BkS} {s : ByteArray} {i : Int}
end
end Go.Proofs.YtjbhallhmnahbaaGreat

/-
  Layer 5: what lasts of spares that are tried, on a device that may have a fuse.
-/
namespace Go.Proofs.YtjbhallhmnahbaaGreat
open Go.RowKit
set_option linter.unusedVariables false

theorem took_words {D : DevS} {l : Nat} {s : ByteArray} (h : tookB D (l : Int) s = true) : ∀ k, k < 8 → D.med (8 * l + k) = wdL s.data.toList k := by
  intro k hk
  unfold tookB at h
  rw [Bool.and_eq_true, Bool.and_eq_true, Int.toNat_natCast, List.all_eq_true] at h
  simpa using h.2.2 k (List.mem_range.2 hk)
def FrX (p : PlanZ) (u : Nat) (x : Nat) : Prop := (x : Int) < 8 * p.a ∨ (8 * (p.a + tabZ p) ≤ (x : Int) ∧ (x : Int) < 8 * spareP p (u : Int)) ∨ 8 * (p.a + sizeZ p) ≤ (x : Int)
def wmD (D : DevS) (M : Nat → Nat) : DevS := { bare D with med := M }
section
variable {p : PlanZ} {D : DevS} {B : BkS} {s : ByteArray} {i : Int}
theorem rep_last (h : TI p (bare D) B) (hd : Live D) (hok : okZ p = true) (hi : inP p i) (hs : s.size = 64) (hu : (B.used : Int) < p.s) :
    ∃ (l : Nat) (t : Bool) (M : Nat → Nat) (B' : BkS), spareP p B.used = (l : Int) ∧ l < D.n ∧ TI p (wmD D M) B' ∧ B'.used = B.used + 1 ∧
      (t = true → B'.wh = updZ B.wh i (some B.used) ∧ ∀ k, k < 8 → M (8 * l + k) = wdL s.data.toList k) ∧ (t = false → B'.wh = B.wh) ∧ (∀ x, FrX p B.used x → M x = D.med x) ∧
      ((∃ E, replaceS p i s D B = ⟨t, 0, E, B'⟩ ∧ Live E ∧ E.med = M ∧ E.n = D.n ∧ E.bad = D.bad) ∨
       (∃ E, replaceS p i s D B = ⟨false, 6, E, B⟩ ∧ E.off = true ∧ E.n = D.n ∧ E.bad = D.bad ∧ ∀ L kp, IsPend E L → (∀ x, x < 8 * l ∨ 8 * l + 8 ≤ x → (bootD E L kp).med x = D.med x) ∨ (bootD E L kp).med = M)) := by
  obtain ⟨h1, h2, h3, h4, h5, h6⟩ := (okZ_iff p).1 hok
  obtain ⟨i0, i9⟩ : 0 ≤ i ∧ i < p.l := hi
  have ht : 8 * tabZ p ≥ p.s := by unfold tabZ; omega
  have ht0 : 0 ≤ tabZ p := by unfold tabZ; omega
  have hsz : sizeZ p = tabZ p + p.l + p.s := by unfold sizeZ; rw [if_pos hok]
  have hfit : p.a + sizeZ p ≤ (D.n : Int) := h.fits
  obtain ⟨l, hl⟩ : ∃ l : Nat, spareP p B.used = (l : Int) := ⟨(spareP p B.used).toNat, by unfold spareP; omega⟩
  have hl2 : l < D.n := by unfold spareP at hl; omega
  have hl3 : p.a + tabZ p + p.l + (B.used : Int) = (l : Int) := hl
  obtain ⟨aN, haN⟩ : ∃ aN : Nat, p.a = (aN : Int) := ⟨p.a.toNat, by omega⟩
  have q2 : p.a + (B.used : Int) / 8 = ((aN + B.used / 8 : Nat) : Int) := by omega
  have q3 : (B.used : Int) % 8 = ((B.used % 8 : Nat) : Int) := by omega
  have q4 : 8 * (aN + B.used / 8) + B.used % 8 = 8 * p.a.toNat + B.used := by omega
  -- the device with no fuse
  obtain ⟨t0, E', B', r1, r2, r3, r4, r5⟩ := rep_calm h hok ⟨i0, i9⟩ hs hu
  obtain ⟨F2, f2, g2⟩ := put_calm (D := bare D) (l := l) (bare_calm D) hl2 hs
  obtain ⟨m, hm⟩ : ∃ m, m = markN F2 (l : Int) i s := ⟨_, rfl⟩
  obtain ⟨F4, f4, g4⟩ := putword_calm (D := F2) (l := aN + B.used / 8) (k := B.used % 8) (v := guardN m) g2.calm (by rw [g2.n]; show _ < D.n; omega) (by omega)
  have hr : replaceS p i s (bare D) B = ⟨tookB F2 (l : Int) s, 0, F4, ⟨B.used + 1, if tookB F2 (l : Int) s then updZ B.wh i (some B.used) else B.wh⟩⟩ := by
    unfold replaceS
    rw [hl, q2, q3, f2]
    simp only
    rw [← hm, f4]
    rfl
  rw [hr] at r1
  injection r1 with u1 u2 u3 u4
  have hbt : F2.bad (aN + B.used / 8) = false := by rw [g2.bad]; exact h.tb _ (by omega) (by omega)
  have hbt2 : D.bad (aN + B.used / 8) = false := h.tb _ (by omega) (by omega)
  have hm4 : ∀ x, F4.med x = if x = 8 * aN + B.used then guardN m else F2.med x := fun x => by
    rw [g4.med, hbt]
    by_cases c : x = 8 * aN + B.used
    · rw [if_pos c, if_pos ⟨by omega, by omega, rfl⟩]
    · rw [if_neg c, if_neg (by omega)]
  have hm2 : ∀ x, x < 8 * l ∨ 8 * l + 8 ≤ x → F2.med x = D.med x := fun x hx => by
    rw [g2.med, if_neg (by omega)]
    rfl
  refine ⟨l, tookB F2 (l : Int) s, F4.med, ⟨B.used + 1, if tookB F2 (l : Int) s then updZ B.wh i (some B.used) else B.wh⟩, hl, hl2, ?_, rfl, ?_, ?_, ?_, ?_⟩
  · rw [u4]
    exact r2.congr hok ⟨rfl, rfl, fun _ => rfl⟩ (by rw [r3]; rfl) (by rw [r4]; rfl) (by rw [← u3]; rfl)
  · intro t1
    rw [t1]
    refine ⟨rfl, fun k hk => ?_⟩
    rw [hm4, if_neg (by omega)]
    exact took_words t1 k hk
  · intro t1
    rw [t1]
    rfl
  · intro x hx
    unfold FrX at hx
    rw [hm4, if_neg (by omega), hm2 x (by omega)]
  · rcases put_live (l := l) hd hl2 hs with ⟨E2, e2, s2⟩ | ⟨E, e2, s2⟩
    · have hF2 : F2.med = E2.med := by
        funext x
        rw [g2.med, s2.med]
        rfl
      have htk : tookB F2 (l : Int) s = tookB E2 (l : Int) s := by
        unfold tookB isLine
        rw [hF2, g2.n, s2.n]
        rfl
      have hmk : markN E2 (l : Int) i s = m := by rw [hm]; unfold markN; rw [htk]
      rcases putword_live (D := E2) (l := aN + B.used / 8) (k := B.used % 8) (v := guardN m) s2.live (by rw [s2.n]; omega) (by omega) with ⟨E4, e4, s4⟩ | ⟨E4, e4, s4⟩
      · left
        refine ⟨E4, ?_, s4.live, ?_, by rw [s4.n, s2.n], by rw [s4.bad, s2.bad]⟩
        · unfold replaceS
          rw [hl, q2, q3, e2]
          simp only
          rw [hmk, e4, htk]
          rfl
        · funext x
          rw [s4.med, g4.med, hF2, g2.bad, s2.bad]
          rfl
      · right
        refine ⟨E4, ?_, s4.off, by rw [s4.n, s2.n], by rw [s4.bad, s2.bad], fun L kp hL => ?_⟩
        · unfold replaceS
          rw [hl, q2, q3, e2]
          simp only
          rw [hmk, e4]
          rfl
        · have hb := boot_torn kp s4 hL
          by_cases c : (bootD E4 L kp).med (8 * aN + B.used) = guardN m
          · right
            funext x
            rw [hm4]
            by_cases d : x = 8 * aN + B.used
            · rw [if_pos d, d, c]
            · rw [if_neg d, hF2]
              rcases hb x with e | ⟨j, j1, j2, _⟩
              · exact e
              · omega
          · left
            intro x hx
            rcases hb x with e | ⟨j, j1, j2, j3, _⟩
            · rw [e, ← hF2]
              exact hm2 x hx
            · exfalso
              apply c
              rw [← j3]
              congr 1
              omega
    · right
      refine ⟨E, ?_, s2.off, s2.n, s2.bad, fun L kp hL => .inl fun x hx => ?_⟩
      · unfold replaceS
        rw [hl, e2]
        rfl
      · rcases boot_torn kp s2 hL x with e | ⟨j, j1, j2, _⟩
        · exact e
        · omega
structure Lasts (p : PlanZ) (i : Int) (s : ByteArray) (u : Nat) (D : DevS) (B : BkS) (E : DevS) (B' : BkS) (t : Bool) : Prop where
  ti : TI p E B'
  n : E.n = D.n
  bad : E.bad = D.bad
  fr : ∀ x, FrX p u x → E.med x = D.med x
  yes : t = true → ∃ k l : Nat, B'.wh = updZ B.wh i (some k) ∧ u ≤ k ∧ spareP p (k : Int) = (l : Int) ∧ l < D.n ∧ ∀ j, j < 8 → E.med (8 * l + j) = wdL s.data.toList j
  no : t = false → B'.wh = B.wh
theorem FrX.mono {u : Nat} {x : Nat} (h : FrX p u x) : FrX p (u + 1) x := by
  unfold FrX at h ⊢
  unfold spareP at h ⊢
  omega
theorem bootD_bad (E : DevS) (L : List Nat) (kp : Nat → Bool) : (bootD E L kp).bad = E.bad := rfl
theorem Lasts.more {u : Nat} {E E' : DevS} {B1 B' : BkS} {t : Bool} (h : Lasts p i s (u + 1) E B1 E' B' t) (hn : E.n = D.n) (hb : E.bad = D.bad) (hw : B1.wh = B.wh) (hf : ∀ x, FrX p u x → E.med x = D.med x) : Lasts p i s u D B E' B' t :=
  ⟨h.ti, h.n.trans hn, h.bad.trans hb, fun x hx => (h.fr x hx.mono).trans (hf x hx), fun e => by
    obtain ⟨k, l, a1, a2, a3, a4, a5⟩ := h.yes e
    exact ⟨k, l, by rw [a1, hw], by omega, a3, by rw [← hn]; exact a4, a5⟩, fun e => (h.no e).trans hw⟩
def EnsL (p : PlanZ) (i : Int) (s : ByteArray) (D : DevS) (B : BkS) (e : Int) (E : DevS) (B' : BkS) : Prop :=
  (e = 0 ∧ Live E ∧ Lasts p i s B.used D B (bare E) B' true) ∨ (e = 10 ∧ Live E ∧ Lasts p i s B.used D B (bare E) B' false) ∨
  (e = 6 ∧ E.off = true ∧ E.n = D.n ∧ E.bad = D.bad ∧ ∀ L kp, IsPend E L → ∃ B'' t, Lasts p i s B.used D B (bootD E L kp) B'' t)
theorem lasts_self {u : Nat} {E : DevS} (hok : okZ p = true) (h : TI p (bare D) B) (hc : Calm E) (hn : E.n = D.n) (hb : E.bad = D.bad) (hm : ∀ x : Nat, (x : Int) < 8 * (p.a + tabZ p) → E.med x = D.med x) (hf : ∀ x, FrX p u x → E.med x = D.med x) : Lasts p i s u D B E B false :=
  ⟨h.keep hc hn hm hok (fun l q1 q2 => by rw [hb]; exact h.tb l q1 q2), hn, hb, hf, (fun e => by cases e), fun _ => rfl⟩
theorem ens_last (hok : okZ p = true) (hi : inP p i) (hs : s.size = 64) : ∀ (n : Nat) (D : DevS) (B : BkS), TI p (bare D) B → Live D → (B.used : Int) + (n : Int) ≤ p.s → ∃ e E B', ensS p i s n D B = (e, E, B') ∧ EnsL p i s D B e E B'
  | 0, D, B, h, hd, _ => ⟨10, D, B, rfl, .inr (.inl ⟨rfl, hd, lasts_self hok h (bare_calm D) rfl rfl (fun _ _ => rfl) (fun _ _ => rfl)⟩)⟩
  | n + 1, D, B, h, hd, hu => by
    obtain ⟨l, t, M, B', hl, hln, ti, us, yes, no, fr, hcase⟩ := rep_last h hd hok hi hs (by omega)
    rcases hcase with ⟨E, r, c1, c2, c3, c4⟩ | ⟨E, r, c1, c2, c3, c4⟩
    · have tiE : TI p (bare E) B' := ti.congr hok (bare_calm E) c3 c4 c2
      cases t with
      | true =>
        obtain ⟨y1, y2⟩ := yes rfl
        refine ⟨0, E, B', by rw [ensS, r]; simp, .inl ⟨rfl, c1, tiE, c3, c4, fun x hx => ?_, fun _ => ⟨B.used, l, y1, Nat.le_refl _, hl, hln, fun j hj => ?_⟩, fun e => by cases e⟩⟩
        · show E.med x = _
          rw [c2]; exact fr x hx
        · show E.med _ = _
          rw [c2]; exact y2 j hj
      | false =>
        obtain ⟨e, E', B'', q1, q2⟩ := ens_last hok hi hs n E B' tiE c1 (by rw [us]; omega)
        rw [show ensS p i s (n + 1) D B = ensS p i s n E B' by rw [ensS, r]; simp]
        have hf : ∀ x, FrX p B.used x → E.med x = D.med x := fun x hx => by rw [c2]; exact fr x hx
        have hw := no rfl
        refine ⟨e, E', B'', q1, ?_⟩
        unfold EnsL at q2 ⊢
        rw [us] at q2
        rcases q2 with ⟨p1, p2, p3⟩ | ⟨p1, p2, p3⟩ | ⟨p1, p2, p3, p4, p5⟩
        · exact .inl ⟨p1, p2, p3.more c3 c4 hw hf⟩
        · exact .inr (.inl ⟨p1, p2, p3.more c3 c4 hw hf⟩)
        · refine .inr (.inr ⟨p1, p2, p3.trans c3, p4.trans c4, fun L kp hL => ?_⟩)
          obtain ⟨B3, t3, z⟩ := p5 L kp hL
          exact ⟨B3, t3, z.more c3 c4 hw hf⟩
    · refine ⟨6, E, B, by rw [ensS, r]; simp, .inr (.inr ⟨rfl, c1, c2, c3, fun L kp hL => ?_⟩)⟩
      obtain ⟨h1, h2, h3, h4, h5, h6⟩ := (okZ_iff p).1 hok
      have ht0 : 0 ≤ tabZ p := by unfold tabZ; omega
      have hsz : sizeZ p = tabZ p + p.l + p.s := by unfold sizeZ; rw [if_pos hok]
      have hl3 : p.a + tabZ p + p.l + (B.used : Int) = (l : Int) := hl
      rcases c4 L kp hL with q | q
      · refine ⟨B, false, lasts_self hok h (boot_calm E L kp) c2 c3 (fun x hx => q x (by omega)) fun x hx => q x ?_⟩
        unfold FrX spareP at hx
        omega
      · refine ⟨B', t, ti.congr hok (boot_calm E L kp) c2 c3 q, c2, c3, fun x hx => by rw [q]; exact fr x hx, fun e => ?_, no⟩
        obtain ⟨y1, y2⟩ := yes e
        exact ⟨B.used, l, y1, Nat.le_refl _, hl, hln, fun j hj => by rw [q]; exact y2 j hj⟩
end
end Go.Proofs.YtjbhallhmnahbaaGreat

/-
  Layer 5: WriteWord.
-/
namespace Go.Proofs.YtjbhallhmnahbaaGreat
open Go.RowKit

def updF (F : Nat → Nat) (k v : Nat) : Nat → Nat := fun j => if j = k then v else F j
def rowU (F : Nat → Nat) : Array Value := #[.int .u64 (F 0 : Int), .int .u64 (F 1 : Int), .int .u64 (F 2 : Int), .int .u64 (F 3 : Int), .int .u64 (F 4 : Int), .int .u64 (F 5 : Int), .int .u64 (F 6 : Int), .int .u64 (F 7 : Int)]
theorem lt8 {k : Nat} (h : k < 8) : k = 0 ∨ k = 1 ∨ k = 2 ∨ k = 3 ∨ k = 4 ∨ k = 5 ∨ k = 6 ∨ k = 7 := by omega
theorem rowU_get (F : Nat → Nat) {k : Nat} (h : k < 8) : (rowU F)[k]? = some (.int .u64 (F k : Int)) := by
  rcases lt8 h with rfl | rfl | rfl | rfl | rfl | rfl | rfl | rfl <;> rfl
theorem rowU_set (F : Nat → Nat) (v : Nat) {k : Nat} (h : k < 8) : (rowU F).setIfInBounds k (.int .u64 (v : Int)) = rowU (updF F k v) := by
  rcases lt8 h with rfl | rfl | rfl | rfl | rfl | rfl | rfl | rfl <;> rfl
def textU (F : Nat → Nat) : ByteArray := ⟨(catL [F 0, F 1, F 2, F 3, F 4, F 5, F 6, F 7]).toArray⟩
theorem textU_size (F : Nat → Nat) : (textU F).size = 64 := by
  show (catL _).toArray.size = 64
  rw [List.size_toArray, catL_length]; rfl
def lineF (D : DevS) (l : Nat) : Nat → Nat := fun j => loadV D (8 * l + j)
theorem lineF_text (D : DevS) (l : Nat) : (⟨(getT D l).toArray⟩ : ByteArray) = textU (lineF D l) := rfl
theorem words_textU (F : Nat → Nat) (hF : ∀ j, F j < 18446744073709551616) : wordsV (textU F) = rowU F := by
  unfold wordsV rowU
  have h := wdL_all [F 0, F 1, F 2, F 3, F 4, F 5, F 6, F 7] (fun n hn => by
    simp only [List.mem_cons, List.not_mem_nil, or_false] at hn
    rcases hn with rfl | rfl | rfl | rfl | rfl | rfl | rfl | rfl <;> exact hF _)
  have e : (textU F).data.toList = catL [F 0, F 1, F 2, F 3, F 4, F 5, F 6, F 7] := by simp [textU]
  rw [e, h 0 _ rfl, h 1 _ rfl, h 2 _ rfl, h 3 _ rfl, h 4 _ rfl, h 5 _ rfl, h 6 _ rfl, h 7 _ rfl]
def writeWordS (p : PlanZ) (i k : Int) (v : Nat) (D : DevS) (B : BkS) : Int × DevS × BkS :=
  if k < 0 ∨ 8 ≤ k then (2, D, B)
  else if inP p i then
    (if D.off then (6, D, B)
    else if (pwE D (placeP p B i) k v).1 ≠ 0 then ((pwE D (placeP p B i) k v).1, (pwE D (placeP p B i) k v).2, B)
    else ensureS p i (placeP p B i) (textU (updF (lineF D (placeP p B i).toNat) k.toNat v)) (pwE D (placeP p B i) k v).2 B)
  else (3, D, B)
end Go.Proofs.YtjbhallhmnahbaaGreat
