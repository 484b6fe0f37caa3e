/-
  SkAo: SpU, SpAb, SpAc, SpAd.
-/
import Derived.Test.YtifekejcbhllpaaGreatSkAn
import Derived.Test.YtifekejcbhllpaaGreatSkAi
import Derived.Test.YtifekejcbhllpaaGreatSkAd
import Derived.Test.YtifekejcbhllpaaGreatSkAl
import Derived.Shelf.SlIterI.Nil
import Derived.Shelf.SortM.Plain
import Derived.Shelf.SortM.SortNone
import Derived.Ground.GgzProg
import Derived.Ground.SlgmProg

set_option linter.unusedVariables false

/-
  Layer 5: a bank and its table agree, and a write on a device that is on keeps that.
-/
namespace Go.Proofs.YtifekejcbhllpaaGreat
open Go.RowKit

theorem low_guard {n : Nat} (h : n < 281474976710656) : low48 (guardN n) = n := by
  apply Nat.eq_of_testBit_eq
  intro i
  unfold low48
  rw [show (281474976710656 : Nat) = 2 ^ 48 from rfl, Nat.testBit_mod_two_pow]
  by_cases c : i < 48
  · rw [guard_bit n i (by omega), if_neg (by omega), decide_eq_true c, Bool.true_and]
  · rw [decide_eq_false c, Bool.false_and]
    symm
    apply Nat.testBit_lt_two_pow
    exact Nat.lt_of_lt_of_le h (Nat.pow_le_pow_right (n := 2) (by omega) (show 48 ≤ i by omega))
theorem guard_guard {n : Nat} (h : n < 281474976710656) : guardN (guardN n) = guardN n := by
  have hl : guardN n < 2 ^ 64 := guardN_lt n (by omega)
  have hl2 : guardN (guardN n) < 2 ^ 64 := guardN_lt _ (guardN_lt n (by omega))
  have hp : putL (guardN n) 6 = putL n 6 := putL_eq_of_bits fun i hi => by rw [guard_bit n i (by omega), if_neg (by omega)]
  apply Nat.eq_of_testBit_eq
  intro i
  by_cases c : i < 64
  · rw [guard_bit (guardN n) i c, check_congr hp]
    by_cases d : 48 ≤ i
    · rw [if_pos d, guard_bit n i c, if_pos d]
    · rw [if_neg d]
  · rw [Nat.testBit_lt_two_pow (Nat.lt_of_lt_of_le hl (Nat.pow_le_pow_right (n := 2) (by omega) (show 64 ≤ i by omega))), Nat.testBit_lt_two_pow (Nat.lt_of_lt_of_le hl2 (Nat.pow_le_pow_right (n := 2) (by omega) (show 64 ≤ i by omega)))]
section
variable {p : PlanZ} {D D' : DevS}
theorem openS_add (r2 : Nat) : ∀ (r1 k : Nat) (B B' : BkS), openS p D r1 k B = (0, B') → openS p D (r1 + r2) k B = openS p D r2 (k + r1) B'
  | 0, k, B, B', h => by
    have : B = B' := (Prod.mk.inj h).2
    rw [this, Nat.zero_add, Nat.add_zero]
  | r1 + 1, k, B, B', h => by
    rw [openS] at h
    rw [show r1 + 1 + r2 = (r1 + r2) + 1 by omega, openS]
    by_cases c : (noteS p k (loadV D (8 * p.a.toNat + k)) B).1 ≠ 0
    · rw [if_pos c] at h
      cases h
    · rw [if_neg c] at h ⊢
      rw [openS_add r2 r1 (k + 1) _ _ h, show k + 1 + r1 = k + (r1 + 1) by omega]
theorem openS_zero : ∀ (r k : Nat) (B : BkS), (∀ j, j < r → loadV D (8 * p.a.toNat + (k + j)) = 0) → openS p D r k B = (0, B)
  | 0, _, _, _ => rfl
  | r + 1, k, B, h => by
    have h0 := h 0 (by omega)
    rw [Nat.add_zero] at h0
    rw [openS, h0]
    show openS p D r (k + 1) B = (0, B)
    exact openS_zero r (k + 1) B fun j hj => by rw [show k + 1 + j = k + (j + 1) by omega]; exact h (j + 1) (by omega)
theorem openS_congr : ∀ (r k : Nat) (B : BkS), (∀ j, j < r → loadV D (8 * p.a.toNat + (k + j)) = loadV D' (8 * p.a.toNat + (k + j))) → openS p D r k B = openS p D' r k B
  | 0, _, _, _ => rfl
  | r + 1, k, B, h => by
    have h0 := h 0 (by omega)
    rw [Nat.add_zero] at h0
    rw [openS, openS, h0, openS_congr r (k + 1) _ fun j hj => by rw [show k + 1 + j = k + (j + 1) by omega]; exact h (j + 1) (by omega)]
end
/-- A bank is what its table says. -/
structure TI (p : PlanZ) (D : DevS) (B : BkS) : Prop where
  calm : Calm D
  fits : p.a + sizeZ p ≤ (D.n : Int)
  us : (B.used : Int) ≤ p.s
  rg : ∀ x k, B.wh x = some k → ((k : Nat) : Int) < p.s
  free : ∀ k : Nat, B.used ≤ k → (k : Int) < p.s → D.med (8 * p.a.toNat + k) = 0
  op : openS p D B.used 0 ⟨0, fun _ => none⟩ = (0, B)
  tb : ∀ l : Nat, p.a ≤ (l : Int) → (l : Int) < p.a + tabZ p → D.bad l = false
section
variable {p : PlanZ} {D : DevS} {B : BkS} {s : ByteArray} {i : Int}
theorem TI.opens (h : TI p D B) : openS p D p.s.toNat 0 ⟨0, fun _ => none⟩ = (0, B) := by
  have hu := h.us
  have e : p.s.toNat = B.used + (p.s.toNat - B.used) := by omega
  rw [e, openS_add _ _ _ _ _ h.op, Nat.zero_add]
  exact openS_zero _ _ _ fun j hj => by rw [calm_load h.calm]; exact h.free _ (by omega) (by omega)
/-- A line that is no table's is written, or a line breaks. -/
theorem TI.keep {D' : DevS} (h : TI p D B) (hc : Calm D') (hn : D'.n = D.n) (hm : ∀ x : Nat, (x : Int) < 8 * (p.a + tabZ p) → D'.med x = D.med x) (hok : okZ p = true) (hb : ∀ l : Nat, p.a ≤ (l : Int) → (l : Int) < p.a + tabZ p → D'.bad l = false) : TI p D' B := by
  obtain ⟨h1, h2, h3, h4, h5, h6⟩ := (okZ_iff p).1 hok
  have ht : 8 * tabZ p ≥ p.s := by unfold tabZ; omega
  have hu := h.us
  refine ⟨hc, by rw [hn]; exact h.fits, h.us, h.rg, fun k h1 h2 => by rw [hm _ (by omega)]; exact h.free k h1 h2, ?_, hb⟩
  rw [← openS_congr (D := D) (D' := D')]
  · exact h.op
  · intro j hj
    rw [calm_load h.calm, calm_load hc, hm _ (by omega)]
theorem rep_calm (h : TI p D B) (hok : okZ p = true) (hi : inP p i) (hs : s.size = 64) (hu : (B.used : Int) < p.s) :
    ∃ t E B', replaceS p i s D B = ⟨t, 0, E, B'⟩ ∧ TI p E B' ∧ E.n = D.n ∧ E.bad = D.bad ∧ B'.used = B.used + 1 := by
  obtain ⟨h1, h2, h3, h4, h5, h6⟩ := (okZ_iff p).1 hok
  obtain ⟨i0, i9⟩ : 0 ≤ i ∧ i < p.l := hi
  have ht : 8 * tabZ p ≥ p.s := by unfold tabZ; omega
  have ht0 : 0 ≤ tabZ p := by unfold tabZ; omega
  have hsz : sizeZ p = tabZ p + p.l + p.s := by unfold sizeZ; rw [if_pos hok]
  have hfit := h.fits
  obtain ⟨l, hl⟩ : ∃ l : Nat, spareP p B.used = (l : Int) := ⟨(spareP p B.used).toNat, by unfold spareP; omega⟩
  have hl2 : p.a + tabZ p ≤ (l : Int) ∧ l < D.n := by rw [← hl]; unfold spareP; constructor; omega; have : ((spareP p B.used).toNat : Int) = spareP p B.used := by { unfold spareP; omega }; unfold spareP at hl; omega
  obtain ⟨E2, e2, s2⟩ := put_calm (l := l) h.calm hl2.2 hs
  have T2 : TI p E2 B := h.keep s2.calm s2.n (fun x hx => by rw [s2.med, if_neg (by omega)]) hok (fun l' q1 q2 => by rw [s2.bad]; exact h.tb l' q1 q2)
  obtain ⟨m, hm⟩ : ∃ m, m = markN E2 (l : Int) i s := ⟨_, rfl⟩
  have hm2 : (tookB E2 (l : Int) s = true ∧ m = i.toNat + 1) ∨ (tookB E2 (l : Int) s = false ∧ m = 65535) := by
    rw [hm]; unfold markN
    cases tookB E2 (l : Int) s with
    | true => exact .inl ⟨rfl, rfl⟩
    | false => exact .inr ⟨rfl, rfl⟩
  have hmb : m < 281474976710656 ∧ m ≠ 0 := by rcases hm2 with ⟨_, q⟩ | ⟨_, q⟩ <;> omega
  obtain ⟨aN, haN⟩ : ∃ aN : Nat, p.a = (aN : Int) := ⟨p.a.toNat, by omega⟩
  have q2 : p.a + (B.used : Int) / 8 = ((aN + B.used / 8 : Nat) : Int) := by omega
  have q3 : (B.used : Int) % 8 = ((B.used % 8 : Nat) : Int) := by omega
  obtain ⟨E4, e4, s4⟩ := putword_calm (D := E2) (l := aN + B.used / 8) (k := B.used % 8) (v := guardN m) s2.calm (by rw [s2.n]; omega) (by omega)
  have hbt : E2.bad (aN + B.used / 8) = false := T2.tb _ (by omega) (by omega)
  have hm4 : ∀ x, E4.med x = if x = 8 * aN + B.used then guardN m else E2.med x := fun x => by
    rw [s4.med, hbt]
    by_cases c : x = 8 * aN + B.used
    · rw [if_pos c, if_pos ⟨by omega, by omega, rfl⟩]
    · rw [if_neg c, if_neg (by omega)]
  have haT : p.a.toNat = aN := by omega
  have hlow := low_guard hmb.1
  have hgg := guard_guard hmb.1
  have hg0 : guardN m ≠ 0 := fun e => by rw [e] at hlow; exact hmb.2 (by rw [← hlow]; rfl)
  have hnote : noteS p B.used (guardN m) B = (0, ⟨B.used + 1, if tookB E2 (l : Int) s then updZ B.wh i (some B.used) else B.wh⟩) := by
    unfold noteS
    rw [if_neg hg0, if_neg]
    · unfold noteB
      rw [hlow]
      rcases hm2 with ⟨t, q⟩ | ⟨t, q⟩
      · rw [t, if_neg (by omega), q]
        rw [show ((i.toNat + 1 : Nat) : Int) - 1 = i by omega]
        rfl
      · rw [t, if_pos q]
        rfl
    · unfold noteBad
      rw [hgg, hlow]
      rintro (c | c | c | c)
      · exact c rfl
      · omega
      · exact hmb.2 c
      · rcases hm2 with ⟨t, q⟩ | ⟨t, q⟩ <;> omega
  refine ⟨tookB E2 (l : Int) s, E4, ⟨B.used + 1, if tookB E2 (l : Int) s then updZ B.wh i (some B.used) else B.wh⟩, ?_, ?_, by rw [s4.n, s2.n], by rw [s4.bad, s2.bad], rfl⟩
  · unfold replaceS
    rw [hl, q2, q3, e2]
    simp only
    rw [← hm, e4]
    rfl
  · refine ⟨s4.calm, by rw [s4.n, s2.n]; exact h.fits, by show ((B.used + 1 : Nat) : Int) ≤ p.s; omega, ?_, ?_, ?_, fun l' q1 q2 => by rw [s4.bad]; exact T2.tb l' q1 q2⟩
    · intro x k hx
      rcases hm2 with ⟨t, q⟩ | ⟨t, q⟩
      · rw [t] at hx
        simp only [if_true, updZ] at hx
        split at hx
        · injection hx with hx; rw [← hx]; exact hu
        · exact h.rg x k hx
      · rw [t] at hx
        exact h.rg x k hx
    · intro k hk1 hk2
      have : B.used + 1 ≤ k := hk1
      rw [haT, hm4, if_neg (by omega), ← haT]
      exact T2.free k (by omega) hk2
    · show openS p E4 (B.used + 1) 0 ⟨0, fun _ => none⟩ = _
      rw [openS_add 1 B.used 0 _ B]
      · rw [openS, Nat.zero_add, calm_load s4.calm, haT, hm4, if_pos rfl, hnote]
        rfl
      · rw [← openS_congr (D := E2) (D' := E4)]
        · exact T2.op
        · intro j hj
          rw [calm_load s2.calm, calm_load s4.calm, haT, hm4, if_neg (by omega)]
theorem ens_calm (hok : okZ p = true) (hi : inP p i) (hs : s.size = 64) : ∀ (n : Nat) (D : DevS) (B : BkS), TI p D B → (B.used : Int) + (n : Int) ≤ p.s → ∃ e E B', ensS p i s n D B = (e, E, B') ∧ TI p E B' ∧ E.n = D.n ∧ E.bad = D.bad
  | 0, D, B, h, _ => ⟨10, D, B, rfl, h, rfl, rfl⟩
  | n + 1, D, B, h, hu => by
    obtain ⟨t, E, B', r, t1, t2, t3, t4⟩ := rep_calm h hok hi hs (by omega)
    rw [ensS, r]
    cases t with
    | true => exact ⟨0, E, B', by simp, t1, t2, t3⟩
    | false =>
      obtain ⟨e, E', B'', q1, q2, q3, q4⟩ := ens_calm hok hi hs n E B' t1 (by rw [t4]; omega)
      exact ⟨e, E', B'', by simpa using q1, q2, q3.trans t2, q4.trans t3⟩
end
end Go.Proofs.YtifekejcbhllpaaGreat

/-
  Layer 5: what a Boot leaves of a Put that was cut, or of none.
-/
namespace Go.Proofs.YtifekejcbhllpaaGreat
open Go.RowKit
set_option linter.unusedVariables false

theorem boot_calm (E : DevS) (L : List Nat) (kp : Nat → Bool) : Calm (bootD E L kp) := ⟨rfl, rfl, fun _ => rfl⟩
theorem bootS_mem {L : List Nat} {kp : Nat → Bool} {x : Nat} (h : bootS L kp x = true) : x ∈ L := by
  unfold bootS at h
  rw [List.any_eq_true] at h
  obtain ⟨j, _, hj⟩ := h
  rw [Bool.and_eq_true, decide_eq_true_eq] at hj
  exact List.mem_of_getElem? hj.2
theorem boot_live {E : DevS} {L : List Nat} (kp : Nat → Bool) (h : Live E) (hL : IsPend E L) : (bootD E L kp).med = E.med := by
  funext x
  show perMed E (bootS L kp) x = E.med x
  unfold perMed
  rw [if_neg]
  intro c
  exact (hL.2 x).1 (bootS_mem c.1) (h.buf _)
theorem boot_torn {D E : DevS} {B m : Nat} {f : Nat → Nat} {L : List Nat} (kp : Nat → Bool) (h : Torn D E B m f) (hL : IsPend E L) (x : Nat) :
    (bootD E L kp).med x = D.med x ∨ ∃ j, j < m ∧ x = B + j ∧ (bootD E L kp).med x = f j ∧ D.bad (x / 8) = false := by
  show perMed E (bootS L kp) x = _ ∨ ∃ j, j < m ∧ x = B + j ∧ perMed E (bootS L kp) x = f j ∧ _
  unfold perMed
  by_cases c : bootS L kp x = true ∧ E.bad (x / 8) = false
  · rw [if_pos c]
    have hne := (hL.2 x).1 (bootS_mem c.1)
    cases e : E.buf (x : Int) with
    | none => exact absurd e hne
    | some v =>
      obtain ⟨j, h1, h2, h3⟩ := h.pend _ _ e
      exact .inr ⟨j, h1, by omega, h3, by rw [← h.bad]; exact c.2⟩
  · rw [if_neg c, h.med]
    exact .inl rfl
/-- The device with nothing pending, no fuse, on. -/
def bare (D : DevS) : DevS := { D with buf := fun _ => none, fuse := 0, off := false }
theorem bare_calm (D : DevS) : Calm (bare D) := ⟨rfl, rfl, fun _ => rfl⟩
theorem TI.congr {p : PlanZ} {D D' : DevS} {B : BkS} (h : TI p D B) (hok : okZ p = true) (hc : Calm D') (hn : D'.n = D.n) (hb : D'.bad = D.bad) (hm : D'.med = D.med) : TI p D' B :=
  h.keep hc hn (fun x _ => by rw [hm]) hok (fun l q1 q2 => by rw [hb]; exact h.tb l q1 q2)
section
variable {p : PlanZ} {D : DevS} {B : BkS} {s : ByteArray} {i : Int}
end
end Go.Proofs.YtifekejcbhllpaaGreat

/-
  Layer 5: what lasts of spares that are tried, on a device that may have a fuse.
-/
namespace Go.Proofs.YtifekejcbhllpaaGreat
open Go.RowKit
set_option linter.unusedVariables false

theorem took_words {D : DevS} {l : Nat} {s : ByteArray} (h : tookB D (l : Int) s = true) : ∀ k, k < 8 → D.med (8 * l + k) = wdL s.data.toList k := by
  intro k hk
  unfold tookB at h
  rw [Bool.and_eq_true, Bool.and_eq_true, Int.toNat_natCast, List.all_eq_true] at h
  simpa using h.2.2 k (List.mem_range.2 hk)
/-- No word of the table, nor of a spare from u on. -/
def FrX (p : PlanZ) (u : Nat) (x : Nat) : Prop := (x : Int) < 8 * p.a ∨ (8 * (p.a + tabZ p) ≤ (x : Int) ∧ (x : Int) < 8 * spareP p (u : Int)) ∨ 8 * (p.a + sizeZ p) ≤ (x : Int)
def wmD (D : DevS) (M : Nat → Nat) : DevS := { bare D with med := M }
section
variable {p : PlanZ} {D : DevS} {B : BkS} {s : ByteArray} {i : Int}
theorem rep_last (h : TI p (bare D) B) (hd : Live D) (hok : okZ p = true) (hi : inP p i) (hs : s.size = 64) (hu : (B.used : Int) < p.s) :
    ∃ (l : Nat) (t : Bool) (M : Nat → Nat) (B' : BkS), spareP p B.used = (l : Int) ∧ l < D.n ∧ TI p (wmD D M) B' ∧ B'.used = B.used + 1 ∧
      (t = true → B'.wh = updZ B.wh i (some B.used) ∧ ∀ k, k < 8 → M (8 * l + k) = wdL s.data.toList k) ∧ (t = false → B'.wh = B.wh) ∧ (∀ x, FrX p B.used x → M x = D.med x) ∧
      ((∃ E, replaceS p i s D B = ⟨t, 0, E, B'⟩ ∧ Live E ∧ E.med = M ∧ E.n = D.n ∧ E.bad = D.bad) ∨
       (∃ E, replaceS p i s D B = ⟨false, 6, E, B⟩ ∧ E.off = true ∧ E.n = D.n ∧ E.bad = D.bad ∧ ∀ L kp, IsPend E L → (∀ x, x < 8 * l ∨ 8 * l + 8 ≤ x → (bootD E L kp).med x = D.med x) ∨ (bootD E L kp).med = M)) := by
  obtain ⟨h1, h2, h3, h4, h5, h6⟩ := (okZ_iff p).1 hok
  obtain ⟨i0, i9⟩ : 0 ≤ i ∧ i < p.l := hi
  have ht : 8 * tabZ p ≥ p.s := by unfold tabZ; omega
  have ht0 : 0 ≤ tabZ p := by unfold tabZ; omega
  have hsz : sizeZ p = tabZ p + p.l + p.s := by unfold sizeZ; rw [if_pos hok]
  have hfit : p.a + sizeZ p ≤ (D.n : Int) := h.fits
  obtain ⟨l, hl⟩ : ∃ l : Nat, spareP p B.used = (l : Int) := ⟨(spareP p B.used).toNat, by unfold spareP; omega⟩
  have hl2 : l < D.n := by unfold spareP at hl; omega
  have hl3 : p.a + tabZ p + p.l + (B.used : Int) = (l : Int) := hl
  obtain ⟨aN, haN⟩ : ∃ aN : Nat, p.a = (aN : Int) := ⟨p.a.toNat, by omega⟩
  have q2 : p.a + (B.used : Int) / 8 = ((aN + B.used / 8 : Nat) : Int) := by omega
  have q3 : (B.used : Int) % 8 = ((B.used % 8 : Nat) : Int) := by omega
  have q4 : 8 * (aN + B.used / 8) + B.used % 8 = 8 * p.a.toNat + B.used := by omega
  -- the device with no fuse
  obtain ⟨t0, E', B', r1, r2, r3, r4, r5⟩ := rep_calm h hok ⟨i0, i9⟩ hs hu
  obtain ⟨F2, f2, g2⟩ := put_calm (D := bare D) (l := l) (bare_calm D) hl2 hs
  obtain ⟨m, hm⟩ : ∃ m, m = markN F2 (l : Int) i s := ⟨_, rfl⟩
  obtain ⟨F4, f4, g4⟩ := putword_calm (D := F2) (l := aN + B.used / 8) (k := B.used % 8) (v := guardN m) g2.calm (by rw [g2.n]; show _ < D.n; omega) (by omega)
  have hr : replaceS p i s (bare D) B = ⟨tookB F2 (l : Int) s, 0, F4, ⟨B.used + 1, if tookB F2 (l : Int) s then updZ B.wh i (some B.used) else B.wh⟩⟩ := by
    unfold replaceS
    rw [hl, q2, q3, f2]
    simp only
    rw [← hm, f4]
    rfl
  rw [hr] at r1
  injection r1 with u1 u2 u3 u4
  have hbt : F2.bad (aN + B.used / 8) = false := by rw [g2.bad]; exact h.tb _ (by omega) (by omega)
  have hbt2 : D.bad (aN + B.used / 8) = false := h.tb _ (by omega) (by omega)
  have hm4 : ∀ x, F4.med x = if x = 8 * aN + B.used then guardN m else F2.med x := fun x => by
    rw [g4.med, hbt]
    by_cases c : x = 8 * aN + B.used
    · rw [if_pos c, if_pos ⟨by omega, by omega, rfl⟩]
    · rw [if_neg c, if_neg (by omega)]
  have hm2 : ∀ x, x < 8 * l ∨ 8 * l + 8 ≤ x → F2.med x = D.med x := fun x hx => by
    rw [g2.med, if_neg (by omega)]
    rfl
  refine ⟨l, tookB F2 (l : Int) s, F4.med, ⟨B.used + 1, if tookB F2 (l : Int) s then updZ B.wh i (some B.used) else B.wh⟩, hl, hl2, ?_, rfl, ?_, ?_, ?_, ?_⟩
  · rw [u4]
    exact r2.congr hok ⟨rfl, rfl, fun _ => rfl⟩ (by rw [r3]; rfl) (by rw [r4]; rfl) (by rw [← u3]; rfl)
  · intro t1
    rw [t1]
    refine ⟨rfl, fun k hk => ?_⟩
    rw [hm4, if_neg (by omega)]
    exact took_words t1 k hk
  · intro t1
    rw [t1]
    rfl
  · intro x hx
    unfold FrX at hx
    rw [hm4, if_neg (by omega), hm2 x (by omega)]
  · rcases put_live (l := l) hd hl2 hs with ⟨E2, e2, s2⟩ | ⟨E, e2, s2⟩
    · have hF2 : F2.med = E2.med := by
        funext x
        rw [g2.med, s2.med]
        rfl
      have htk : tookB F2 (l : Int) s = tookB E2 (l : Int) s := by
        unfold tookB isLine
        rw [hF2, g2.n, s2.n]
        rfl
      have hmk : markN E2 (l : Int) i s = m := by rw [hm]; unfold markN; rw [htk]
      rcases putword_live (D := E2) (l := aN + B.used / 8) (k := B.used % 8) (v := guardN m) s2.live (by rw [s2.n]; omega) (by omega) with ⟨E4, e4, s4⟩ | ⟨E4, e4, s4⟩
      · left
        refine ⟨E4, ?_, s4.live, ?_, by rw [s4.n, s2.n], by rw [s4.bad, s2.bad]⟩
        · unfold replaceS
          rw [hl, q2, q3, e2]
          simp only
          rw [hmk, e4, htk]
          rfl
        · funext x
          rw [s4.med, g4.med, hF2, g2.bad, s2.bad]
          rfl
      · right
        refine ⟨E4, ?_, s4.off, by rw [s4.n, s2.n], by rw [s4.bad, s2.bad], fun L kp hL => ?_⟩
        · unfold replaceS
          rw [hl, q2, q3, e2]
          simp only
          rw [hmk, e4]
          rfl
        · have hb := boot_torn kp s4 hL
          by_cases c : (bootD E4 L kp).med (8 * aN + B.used) = guardN m
          · right
            funext x
            rw [hm4]
            by_cases d : x = 8 * aN + B.used
            · rw [if_pos d, d, c]
            · rw [if_neg d, hF2]
              rcases hb x with e | ⟨j, j1, j2, _⟩
              · exact e
              · omega
          · left
            intro x hx
            rcases hb x with e | ⟨j, j1, j2, j3, _⟩
            · rw [e, ← hF2]
              exact hm2 x hx
            · exfalso
              apply c
              rw [← j3]
              congr 1
              omega
    · right
      refine ⟨E, ?_, s2.off, s2.n, s2.bad, fun L kp hL => .inl fun x hx => ?_⟩
      · unfold replaceS
        rw [hl, e2]
        rfl
      · rcases boot_torn kp s2 hL x with e | ⟨j, j1, j2, _⟩
        · exact e
        · omega
/-- What lasts: the bank that the table tells, and what its lines have. -/
structure Lasts (p : PlanZ) (i : Int) (s : ByteArray) (u : Nat) (D : DevS) (B : BkS) (E : DevS) (B' : BkS) (t : Bool) : Prop where
  ti : TI p E B'
  n : E.n = D.n
  bad : E.bad = D.bad
  fr : ∀ x, FrX p u x → E.med x = D.med x
  yes : t = true → ∃ k l : Nat, B'.wh = updZ B.wh i (some k) ∧ u ≤ k ∧ spareP p (k : Int) = (l : Int) ∧ l < D.n ∧ ∀ j, j < 8 → E.med (8 * l + j) = wdL s.data.toList j
  no : t = false → B'.wh = B.wh
theorem FrX.mono {u : Nat} {x : Nat} (h : FrX p u x) : FrX p (u + 1) x := by
  unfold FrX at h ⊢
  unfold spareP at h ⊢
  omega
theorem bootD_bad (E : DevS) (L : List Nat) (kp : Nat → Bool) : (bootD E L kp).bad = E.bad := rfl
theorem Lasts.more {u : Nat} {E E' : DevS} {B1 B' : BkS} {t : Bool} (h : Lasts p i s (u + 1) E B1 E' B' t) (hn : E.n = D.n) (hb : E.bad = D.bad) (hw : B1.wh = B.wh) (hf : ∀ x, FrX p u x → E.med x = D.med x) : Lasts p i s u D B E' B' t :=
  ⟨h.ti, h.n.trans hn, h.bad.trans hb, fun x hx => (h.fr x hx.mono).trans (hf x hx), fun e => by
    obtain ⟨k, l, a1, a2, a3, a4, a5⟩ := h.yes e
    exact ⟨k, l, by rw [a1, hw], by omega, a3, by rw [← hn]; exact a4, a5⟩, fun e => (h.no e).trans hw⟩
/-- A try of spares that may be cut. -/
def EnsL (p : PlanZ) (i : Int) (s : ByteArray) (D : DevS) (B : BkS) (e : Int) (E : DevS) (B' : BkS) : Prop :=
  (e = 0 ∧ Live E ∧ Lasts p i s B.used D B (bare E) B' true) ∨ (e = 10 ∧ Live E ∧ Lasts p i s B.used D B (bare E) B' false) ∨
  (e = 6 ∧ E.off = true ∧ E.n = D.n ∧ E.bad = D.bad ∧ ∀ L kp, IsPend E L → ∃ B'' t, Lasts p i s B.used D B (bootD E L kp) B'' t)
theorem lasts_self {u : Nat} {E : DevS} (hok : okZ p = true) (h : TI p (bare D) B) (hc : Calm E) (hn : E.n = D.n) (hb : E.bad = D.bad) (hm : ∀ x : Nat, (x : Int) < 8 * (p.a + tabZ p) → E.med x = D.med x) (hf : ∀ x, FrX p u x → E.med x = D.med x) : Lasts p i s u D B E B false :=
  ⟨h.keep hc hn hm hok (fun l q1 q2 => by rw [hb]; exact h.tb l q1 q2), hn, hb, hf, (fun e => by cases e), fun _ => rfl⟩
theorem ens_last (hok : okZ p = true) (hi : inP p i) (hs : s.size = 64) : ∀ (n : Nat) (D : DevS) (B : BkS), TI p (bare D) B → Live D → (B.used : Int) + (n : Int) ≤ p.s → ∃ e E B', ensS p i s n D B = (e, E, B') ∧ EnsL p i s D B e E B'
  | 0, D, B, h, hd, _ => ⟨10, D, B, rfl, .inr (.inl ⟨rfl, hd, lasts_self hok h (bare_calm D) rfl rfl (fun _ _ => rfl) (fun _ _ => rfl)⟩)⟩
  | n + 1, D, B, h, hd, hu => by
    obtain ⟨l, t, M, B', hl, hln, ti, us, yes, no, fr, hcase⟩ := rep_last h hd hok hi hs (by omega)
    rcases hcase with ⟨E, r, c1, c2, c3, c4⟩ | ⟨E, r, c1, c2, c3, c4⟩
    · have tiE : TI p (bare E) B' := ti.congr hok (bare_calm E) c3 c4 c2
      cases t with
      | true =>
        obtain ⟨y1, y2⟩ := yes rfl
        refine ⟨0, E, B', by rw [ensS, r]; simp, .inl ⟨rfl, c1, tiE, c3, c4, fun x hx => ?_, fun _ => ⟨B.used, l, y1, Nat.le_refl _, hl, hln, fun j hj => ?_⟩, fun e => by cases e⟩⟩
        · show E.med x = _
          rw [c2]; exact fr x hx
        · show E.med _ = _
          rw [c2]; exact y2 j hj
      | false =>
        obtain ⟨e, E', B'', q1, q2⟩ := ens_last hok hi hs n E B' tiE c1 (by rw [us]; omega)
        rw [show ensS p i s (n + 1) D B = ensS p i s n E B' by rw [ensS, r]; simp]
        have hf : ∀ x, FrX p B.used x → E.med x = D.med x := fun x hx => by rw [c2]; exact fr x hx
        have hw := no rfl
        refine ⟨e, E', B'', q1, ?_⟩
        unfold EnsL at q2 ⊢
        rw [us] at q2
        rcases q2 with ⟨p1, p2, p3⟩ | ⟨p1, p2, p3⟩ | ⟨p1, p2, p3, p4, p5⟩
        · exact .inl ⟨p1, p2, p3.more c3 c4 hw hf⟩
        · exact .inr (.inl ⟨p1, p2, p3.more c3 c4 hw hf⟩)
        · refine .inr (.inr ⟨p1, p2, p3.trans c3, p4.trans c4, fun L kp hL => ?_⟩)
          obtain ⟨B3, t3, z⟩ := p5 L kp hL
          exact ⟨B3, t3, z.more c3 c4 hw hf⟩
    · refine ⟨6, E, B, by rw [ensS, r]; simp, .inr (.inr ⟨rfl, c1, c2, c3, fun L kp hL => ?_⟩)⟩
      obtain ⟨h1, h2, h3, h4, h5, h6⟩ := (okZ_iff p).1 hok
      have ht0 : 0 ≤ tabZ p := by unfold tabZ; omega
      have hsz : sizeZ p = tabZ p + p.l + p.s := by unfold sizeZ; rw [if_pos hok]
      have hl3 : p.a + tabZ p + p.l + (B.used : Int) = (l : Int) := hl
      rcases c4 L kp hL with q | q
      · refine ⟨B, false, lasts_self hok h (boot_calm E L kp) c2 c3 (fun x hx => q x (by omega)) fun x hx => q x ?_⟩
        unfold FrX spareP at hx
        omega
      · refine ⟨B', t, ti.congr hok (boot_calm E L kp) c2 c3 q, c2, c3, fun x hx => by rw [q]; exact fr x hx, fun e => ?_, no⟩
        obtain ⟨y1, y2⟩ := yes e
        exact ⟨B.used, l, y1, Nat.le_refl _, hl, hln, fun j hj => by rw [q]; exact y2 j hj⟩
end
end Go.Proofs.YtifekejcbhllpaaGreat

/-
  Layer 5: what lasts of a Write and a WriteWord, on a device that may have a fuse.
-/
namespace Go.Proofs.YtifekejcbhllpaaGreat
open Go.RowKit
set_option linter.unusedVariables false

section
variable {p : PlanZ} {D : DevS} {B : BkS} {s : ByteArray} {i : Int}
theorem openS_rg : ∀ (r k : Nat) (B B' : BkS), openS p D r k B = (0, B') → B.used ≤ k → (∀ x j, B.wh x = some j → j < B.used) → ∀ x j, B'.wh x = some j → j < B'.used
  | 0, k, B, B', h, _, hw => by
    have : B = B' := (Prod.mk.inj h).2
    rw [← this]; exact hw
  | r + 1, k, B, B', h, hu, hw => by
    rw [openS] at h
    by_cases c : (noteS p k (loadV D (8 * p.a.toNat + k)) B).1 ≠ 0
    · rw [if_pos c] at h
      cases h
    · rw [if_neg c] at h
      generalize loadV D (8 * p.a.toNat + k) = v at *
      refine openS_rg r (k + 1) _ B' h ?_ ?_
      · unfold noteS at c ⊢
        split
        · exact Nat.le_succ_of_le hu
        · split
          · exact Nat.le_succ_of_le hu
          · show B.used + 1 ≤ k + 1
            omega
      · unfold noteS at c ⊢
        split
        · exact hw
        · split
          · exact hw
          · rename_i v0 nb
            have hk : k ≤ B.used := by unfold noteBad at nb; omega
            intro x j e
            show j < B.used + 1
            have e2 : (noteB k v B).wh x = some j := e
            unfold noteB at e2
            simp only at e2
            split at e2
            · have := hw x j e2; omega
            · unfold updZ at e2
              split at e2
              · injection e2 with e2; omega
              · have := hw x j e2; omega
theorem TI.ws (h : TI p D B) : ∀ x j, B.wh x = some j → j < B.used := openS_rg _ 0 _ _ h.op (Nat.le_refl _) (fun x j e => by cases e)
theorem TI.place (h : TI p D B) (hok : okZ p = true) (hi : inP p i) : ∃ l : Nat, placeP p B i = (l : Int) ∧ l < D.n ∧ p.a + tabZ p ≤ (l : Int) ∧ (l : Int) < spareP p (B.used : Int) := by
  obtain ⟨h1, h2, h3, h4, h5, h6⟩ := (okZ_iff p).1 hok
  obtain ⟨i0, i9⟩ : 0 ≤ i ∧ i < p.l := hi
  have ht0 : 0 ≤ tabZ p := by unfold tabZ; omega
  have hsz : sizeZ p = tabZ p + p.l + p.s := by unfold sizeZ; rw [if_pos hok]
  have hfit := h.fits
  have hus := h.us
  unfold placeP
  cases e : B.wh i with
  | some k =>
    have := h.ws i k e
    exact ⟨(spareP p k).toNat, by simp only; unfold spareP; omega, by unfold spareP; omega, by unfold spareP; omega, by unfold spareP; omega⟩
  | none => exact ⟨(lineP p i).toNat, by simp only; unfold lineP; omega, by unfold lineP; omega, by unfold lineP; omega, by unfold lineP spareP; omega⟩
/-- What lasts of a write: G says what the line has. -/
structure Kept (p : PlanZ) (i : Int) (l0 : Nat) (D : DevS) (B : BkS) (E : DevS) (B' : BkS) (G : (Nat → Nat) → Prop) : Prop where
  ti : TI p E B'
  n : E.n = D.n
  bad : E.bad = D.bad
  fr : ∀ x, FrX p B.used x → (x < 8 * l0 ∨ 8 * l0 + 8 ≤ x) → E.med x = D.med x
  wh : ∀ j, j ≠ i → B'.wh j = B.wh j
  got : ∃ l : Nat, placeP p B' i = (l : Int) ∧ l < D.n ∧ G (fun k => E.med (8 * l + k))
def IsW (F : Nat → Nat) (G : Nat → Nat) : Prop := ∀ k, k < 8 → G k = F k
def Mix2 (F H : Nat → Nat) (G : Nat → Nat) : Prop := ∀ k, k < 8 → G k = F k ∨ G k = H k
def One2 (F H : Nat → Nat) (G : Nat → Nat) : Prop := IsW F G ∨ IsW H G
theorem One2.mix {F H G : Nat → Nat} (h : One2 F H G) : Mix2 F H G := fun k hk => h.elim (fun q => .inl (q k hk)) (fun q => .inr (q k hk))
theorem Kept.imp {l0 : Nat} {E : DevS} {B' : BkS} {G G' : (Nat → Nat) → Prop} (h : Kept p i l0 D B E B' G) (hG : ∀ F, G F → G' F) : Kept p i l0 D B E B' G' :=
  ⟨h.ti, h.n, h.bad, h.fr, h.wh, by obtain ⟨l, a, b, c⟩ := h.got; exact ⟨l, a, b, hG _ c⟩⟩
/-- The outcomes of a write: done, no spare left, cut. -/
def WrL (p : PlanZ) (i : Int) (l0 : Nat) (s : ByteArray) (D : DevS) (B : BkS) (C : (Nat → Nat) → Prop) (e : Int) (E : DevS) (B' : BkS) : Prop :=
  (e = 0 ∧ Live E ∧ Kept p i l0 D B (bare E) B' (IsW (wdL s.data.toList))) ∨ (e = 10 ∧ Live E ∧ Kept p i l0 D B (bare E) B' (IsW fun k => D.med (8 * l0 + k))) ∨
  (e = 6 ∧ E.off = true ∧ E.n = D.n ∧ E.bad = D.bad ∧ ∀ L kp, IsPend E L → ∃ B'', Kept p i l0 D B (bootD E L kp) B'' C)
theorem Lasts.kept {l0 : Nat} {E2 E : DevS} {B' : BkS} {t : Bool} (h : Lasts p i s B.used E2 B E B' t) (hp : placeP p B i = (l0 : Int)) (hl1 : p.a + tabZ p ≤ (l0 : Int)) (hl2 : (l0 : Int) < spareP p (B.used : Int)) (hln : l0 < D.n)
    (hn : E2.n = D.n) (hb : E2.bad = D.bad) (hm : E2.med = D.med) :
    (t = true → Kept p i l0 D B E B' (IsW (wdL s.data.toList))) ∧ (t = false → Kept p i l0 D B E B' (IsW fun k => D.med (8 * l0 + k))) := by
  refine ⟨fun e => ?_, fun e => ?_⟩
  · obtain ⟨k, l, a1, a2, a3, a4, a5⟩ := h.yes e
    refine ⟨h.ti, h.n.trans hn, h.bad.trans hb, fun x hx _ => by rw [h.fr x hx, hm], fun j hj => by rw [a1]; unfold updZ; rw [if_neg hj], l, ?_, by rw [← hn]; exact a4, fun k hk => a5 k hk⟩
    unfold placeP
    rw [a1]
    unfold updZ
    rw [if_pos rfl]
    exact a3
  · have hw := h.no e
    refine ⟨h.ti, h.n.trans hn, h.bad.trans hb, fun x hx _ => by rw [h.fr x hx, hm], fun j hj => by rw [hw], l0, ?_, hln, fun k hk => ?_⟩
    · rw [← hp]
      unfold placeP
      rw [hw]
    · show E.med _ = _
      rw [h.fr _ (by unfold FrX; omega), hm]
theorem ensure_last {l0 m b : Nat} {f : Nat → Nat} {E2 : DevS} {C : (Nat → Nat) → Prop} (hok : okZ p = true) (hi : inP p i) (hs : s.size = 64) (h : TI p (bare D) B) (hp : placeP p B i = (l0 : Int)) (hl1 : p.a + tabZ p ≤ (l0 : Int)) (hl2 : (l0 : Int) < spareP p (B.used : Int)) (hln : l0 < D.n)
    (hw : Whole D E2 l0 b m f) (hb1 : 8 * l0 ≤ b) (hb2 : b + m ≤ 8 * l0 + 8) (hgood : D.bad l0 = false → ∀ k, k < 8 → E2.med (8 * l0 + k) = wdL s.data.toList k) (hC : ∀ F, One2 (fun k => D.med (8 * l0 + k)) (wdL s.data.toList) F → C F) :
    ∃ e E B', ensureS p i (l0 : Int) s E2 B = (e, E, B') ∧ WrL p i l0 s D B C e E B' := by
  have T2 : TI p (bare E2) B := h.keep (bare_calm E2) (by show E2.n = _; rw [hw.n]; rfl) (fun x hx => by show E2.med x = D.med x; rw [hw.med, if_neg (by omega)]) hok (fun l q1 q2 => by show E2.bad l = _; rw [hw.bad]; exact h.tb l q1 q2)
  unfold ensureS
  cases ht : tookB E2 (l0 : Int) s with
  | true =>
    refine ⟨0, E2, B, rfl, .inl ⟨rfl, hw.live, T2, hw.n, hw.bad, fun x _ hx => ?_, fun _ _ => rfl, l0, hp, hln, fun k hk => took_words ht k hk⟩⟩
    show E2.med x = _
    rw [hw.med, if_neg (by omega)]
  | false =>
    have hbad : D.bad l0 = true := by
      cases hb : D.bad l0 with
      | true => rfl
      | false =>
        have := took_of (l := l0) (D := E2) (s := s) (by rw [hw.n]; exact hln) hs (hgood hb)
        rw [ht] at this
        cases this
    have hm : E2.med = D.med := by
      funext x
      rw [hw.med, if_neg (fun e => by rw [hbad] at e; cases e.2.2)]
    have hus := T2.us
    obtain ⟨e, E, B', q1, q2⟩ := ens_last hok hi hs (p.s - (B.used : Int)).toNat E2 B T2 hw.live (by omega)
    refine ⟨e, E, B', by simpa using q1, ?_⟩
    unfold EnsL at q2
    unfold WrL
    rcases q2 with ⟨p1, p2, p3⟩ | ⟨p1, p2, p3⟩ | ⟨p1, p2, p3, p4, p5⟩
    · exact .inl ⟨p1, p2, (p3.kept hp hl1 hl2 hln hw.n hw.bad hm).1 rfl⟩
    · exact .inr (.inl ⟨p1, p2, (p3.kept hp hl1 hl2 hln hw.n hw.bad hm).2 rfl⟩)
    · refine .inr (.inr ⟨p1, p2, p3.trans hw.n, p4.trans hw.bad, fun L kp hL => ?_⟩)
      obtain ⟨B3, t3, z⟩ := p5 L kp hL
      have zz := z.kept hp hl1 hl2 hln hw.n hw.bad hm
      cases t3 with
      | true => exact ⟨B3, (zz.1 rfl).imp fun F hF => hC F (.inr hF)⟩
      | false => exact ⟨B3, (zz.2 rfl).imp fun F hF => hC F (.inl hF)⟩
theorem write_last (h : TI p (bare D) B) (hd : Live D) (hok : okZ p = true) (hi : inP p i) (hs : s.size = 64) : ∃ (l0 : Nat) (e : Int) (E : DevS) (B' : BkS), placeP p B i = (l0 : Int) ∧ writeS p i s D B = (e, E, B') ∧ WrL p i l0 s D B (Mix2 (fun k => D.med (8 * l0 + k)) (wdL s.data.toList)) e E B' := by
  obtain ⟨l0, hp, hln, hl1, hl2⟩ := h.place hok hi
  have hln2 : l0 < D.n := hln
  refine ⟨l0, ?_⟩
  rcases put_live (l := l0) hd hln2 hs with ⟨E2, e2, s2⟩ | ⟨E, e2, s2⟩
  · obtain ⟨e, E, B', q1, q2⟩ := ensure_last (C := Mix2 (fun k => D.med (8 * l0 + k)) (wdL s.data.toList)) hok hi hs h hp hl1 hl2 hln2 s2 (Nat.le_refl _) (Nat.le_refl _) (fun hb k hk => by
      rw [s2.med, if_pos ⟨by omega, by omega, hb⟩]
      congr 1
      omega) (fun F hF => hF.mix)
    refine ⟨e, E, B', hp, ?_, q2⟩
    unfold writeS
    rw [if_neg (by simp [hs]), if_pos hi, hp, e2]
    show (if (0 : Int) ≠ 0 then _ else _) = _
    rw [if_neg (by simp)]
    exact q1
  · refine ⟨6, E, B, hp, ?_, .inr (.inr ⟨rfl, s2.off, s2.n, s2.bad, fun L kp hL => ⟨B, ?_⟩⟩)⟩
    · unfold writeS
      rw [if_neg (by simp [hs]), if_pos hi, hp, e2]
      rfl
    · have hb := boot_torn kp s2 hL
      have hm : ∀ x, (x < 8 * l0 ∨ 8 * l0 + 8 ≤ x) → (bootD E L kp).med x = D.med x := fun x hx => by
        rcases hb x with e | ⟨j, j1, j2, _⟩
        · exact e
        · omega
      refine ⟨h.keep (boot_calm E L kp) s2.n (fun x hx => hm x (by omega)) hok (fun l q1 q2 => by rw [bootD_bad, s2.bad]; exact h.tb l q1 q2), s2.n, s2.bad, fun x _ hx => hm x hx, fun _ _ => rfl, l0, hp, hln2, fun k hk => ?_⟩
      rcases hb (8 * l0 + k) with e | ⟨j, j1, j2, j3, _⟩
      · exact .inl e
      · right
        show (bootD E L kp).med (8 * l0 + k) = _
        rw [j3]
        congr 1
        omega
theorem lineF_live (hd : Live D) (l : Nat) : lineF D l = fun j => D.med (8 * l + j) := by
  funext j
  unfold lineF loadV
  rw [hd.buf]
theorem wd_textU {F : Nat → Nat} (hF : ∀ j, F j < 18446744073709551616) (k : Nat) (hk : k < 8) : wdL (textU F).data.toList k = F k := by
  have e : (textU F).data.toList = catL [F 0, F 1, F 2, F 3, F 4, F 5, F 6, F 7] := by simp [textU]
  rw [e]
  refine wdL_all _ (fun n hn => ?_) k _ ?_
  · simp only [List.mem_cons, List.not_mem_nil, or_false] at hn
    rcases hn with rfl | rfl | rfl | rfl | rfl | rfl | rfl | rfl <;> exact hF _
  · rcases lt8 hk with rfl | rfl | rfl | rfl | rfl | rfl | rfl | rfl <;> rfl
end
end Go.Proofs.YtifekejcbhllpaaGreat
