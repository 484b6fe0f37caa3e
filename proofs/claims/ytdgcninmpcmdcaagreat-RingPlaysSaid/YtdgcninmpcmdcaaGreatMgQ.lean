/-
  MgQ: SpQ, SpAe.
-/
import Derived.Test.YtdgcninmpcmdcaaGreatMgI
import Derived.Test.YtdgcninmpcmdcaaGreatMgP

/-
  SpareCount: what a write to a worn line leaves, while lines and spares wear out.
-/
namespace Go.Proofs.YtdgcninmpcmdcaaGreat
open Go.RowKit

def p06 : PlanZ := ⟨0, 8, 6⟩
/-- The good ones among n spares from u on. -/
def gds (f : Nat → Bool) : Nat → Nat → Nat
  | 0, _ => 0
  | n + 1, u => (if f u = true then 0 else 1) + gds f n (u + 1)
theorem gds_last (f : Nat → Bool) : ∀ n u, gds f (n + 1) u = gds f n u + (if f (u + n) = true then 0 else 1)
  | 0, u => by simp [gds]
  | n + 1, u => by
    have h := gds_last f n (u + 1)
    rw [gds, h, gds, show u + 1 + n = u + (n + 1) by omega]
    omega
theorem gds_le (f : Nat → Bool) : ∀ n u, gds f n u ≤ n
  | 0, u => by simp [gds]
  | n + 1, u => by
    have h := gds_le f n (u + 1)
    rw [gds]
    split <;> omega
structure CI (D : DevS) (B : BkS) (f : Nat → Bool) (good i : Nat) : Prop where
  calm : Calm D
  n : D.n = 15
  bs : ∀ k, k < 6 → D.bad (9 + k) = f k
  sp0 : ∀ k, k < 6 → f k = true → ∀ x, x < 8 → D.med (8 * (9 + k) + x) = 0
  ln0 : ∀ j : Nat, i ≤ j → j < 8 → B.wh (j : Int) = none ∧ ∀ x, x < 8 → D.med (8 * (1 + j) + x) = 0
  us : B.used ≤ 6
  cn : gds f (6 - B.used) B.used = good - i
theorem spare06 (k : Nat) : spareP p06 (k : Int) = ((9 + k : Nat) : Int) := by show (0 : Int) + (6 + 7) / 8 + 8 + (k : Int) = _; omega
theorem line06 (k : Nat) : lineP p06 (k : Int) = ((1 + k : Nat) : Int) := by show (0 : Int) + (6 + 7) / 8 + (k : Int) = _; omega
section
variable {D : DevS} {B : BkS} {f : Nat → Bool} {s : ByteArray} {i : Nat}
theorem rep_bad (h : Calm D) (hn : D.n = 15) (hu : B.used < 6) (hb : D.bad (9 + B.used) = true) (h0 : D.med (8 * (9 + B.used)) = 0) (hs : s.size = 64) (hw : wdL s.data.toList 0 ≠ 0) :
    ∃ E, replaceS p06 (i : Int) s D B = ⟨false, 0, E, ⟨B.used + 1, B.wh⟩⟩ ∧ Calm E ∧ E.n = 15 ∧ E.bad = D.bad ∧ ∀ x, 8 ≤ x → E.med x = D.med x := by
  obtain ⟨E2, e2, s2⟩ := put_calm (l := 9 + B.used) h (by omega) hs
  have m2 : ∀ x, E2.med x = D.med x := fun x => by rw [s2.med, if_neg (fun e => by rw [hb] at e; cases e.2.2)]
  have t2 : tookB E2 ((9 + B.used : Nat) : Int) s = false := took_not (k := 0) (by omega) (by rw [m2, Nat.add_zero, h0]; exact fun e => hw e.symm)
  obtain ⟨E4, e4, s4⟩ := putword_calm (D := E2) (l := 0) (k := B.used) (v := guardN 65535) s2.calm (by rw [s2.n]; omega) (by omega)
  refine ⟨E4, ?_, s4.calm, by rw [s4.n, s2.n, hn], by rw [s4.bad, s2.bad], fun x hx => by rw [s4.med, if_neg (by omega), m2]⟩
  have q2 : p06.a + (B.used : Int) / 8 = ((0 : Nat) : Int) := by show (0 : Int) + _ = _; omega
  have q3 : (B.used : Int) % 8 = ((B.used : Nat) : Int) := by omega
  have q4 : markN E2 ((9 + B.used : Nat) : Int) (i : Int) s = 65535 := by unfold markN; rw [t2]; rfl
  unfold replaceS
  rw [spare06, q2, q3, e2]
  simp only
  rw [q4, e4, t2]
  rfl
theorem rep_good (h : Calm D) (hn : D.n = 15) (hu : B.used < 6) (hb : D.bad (9 + B.used) = false) (hs : s.size = 64) :
    ∃ E, replaceS p06 (i : Int) s D B = ⟨true, 0, E, ⟨B.used + 1, updZ B.wh (i : Int) (some B.used)⟩⟩ ∧ Calm E ∧ E.n = 15 ∧ E.bad = D.bad ∧ (∀ x, 8 ≤ x → (x < 8 * (9 + B.used) ∨ 8 * (9 + B.used) + 8 ≤ x) → E.med x = D.med x) ∧ ∀ k, k < 8 → E.med (8 * (9 + B.used) + k) = wdL s.data.toList k := by
  obtain ⟨E2, e2, s2⟩ := put_calm (l := 9 + B.used) h (by omega) hs
  have m2 : ∀ k, k < 8 → E2.med (8 * (9 + B.used) + k) = wdL s.data.toList k := fun k hk => by
    rw [s2.med, if_pos ⟨by omega, by omega, hb⟩]
    congr 1
    omega
  have t2 : tookB E2 ((9 + B.used : Nat) : Int) s = true := took_of (by rw [s2.n]; omega) hs m2
  obtain ⟨E4, e4, s4⟩ := putword_calm (D := E2) (l := 0) (k := B.used) (v := guardN (i + 1)) s2.calm (by rw [s2.n]; omega) (by omega)
  refine ⟨E4, ?_, s4.calm, by rw [s4.n, s2.n, hn], by rw [s4.bad, s2.bad], fun x hx hx2 => by rw [s4.med, if_neg (by omega), s2.med, if_neg (by omega)], fun k hk => by rw [s4.med, if_neg (by omega), m2 k hk]⟩
  have q2 : p06.a + (B.used : Int) / 8 = ((0 : Nat) : Int) := by show (0 : Int) + _ = _; omega
  have q3 : (B.used : Int) % 8 = ((B.used : Nat) : Int) := by omega
  have q4 : markN E2 ((9 + B.used : Nat) : Int) (i : Int) s = i + 1 := by unfold markN; rw [t2]; rfl
  unfold replaceS
  rw [spare06, q2, q3, e2]
  simp only
  rw [q4, e4, t2]
  rfl
end
section
variable {f : Nat → Bool} {s : ByteArray} {i : Nat}
theorem ens_c (hs : s.size = 64) (hw : wdL s.data.toList 0 ≠ 0) : ∀ (n : Nat) (D : DevS) (B : BkS), B.used + n = 6 → Calm D → D.n = 15 → (∀ k, k < 6 → D.bad (9 + k) = f k) → (∀ k, k < 6 → f k = true → ∀ x, x < 8 → D.med (8 * (9 + k) + x) = 0) →
    (0 < gds f n B.used → ∃ E k, B.used ≤ k ∧ k < 6 ∧ f k = false ∧ ensS p06 (i : Int) s n D B = (0, E, ⟨k + 1, updZ B.wh (i : Int) (some k)⟩) ∧ gds f (6 - (k + 1)) (k + 1) + 1 = gds f n B.used ∧ Calm E ∧ E.n = 15 ∧ E.bad = D.bad ∧ (∀ x, 8 ≤ x → (x < 8 * (9 + k) ∨ 8 * (9 + k) + 8 ≤ x) → E.med x = D.med x) ∧ ∀ x, x < 8 → E.med (8 * (9 + k) + x) = wdL s.data.toList x) ∧
    (gds f n B.used = 0 → ∃ E, ensS p06 (i : Int) s n D B = (10, E, ⟨6, B.wh⟩) ∧ Calm E ∧ E.n = 15 ∧ E.bad = D.bad ∧ ∀ x, 8 ≤ x → E.med x = D.med x)
  | 0, D, B, hu, hc, hn, hb, hz => by
    refine ⟨fun h => absurd h (by simp [gds]), fun _ => ⟨D, ?_, hc, hn, rfl, fun _ _ => rfl⟩⟩
    obtain ⟨u, wh⟩ := B
    obtain rfl : u = 6 := by simpa using hu
    rfl
  | n + 1, D, B, hu, hc, hn, hb, hz => by
    cases e : f B.used with
    | true =>
      obtain ⟨E, r, c1, c2, c3, c4⟩ := rep_bad (i := i) hc hn (by omega) ((hb _ (by omega)).trans e) (hz _ (by omega) e 0 (by omega)) hs hw
      have he : ensS p06 (i : Int) s (n + 1) D B = ensS p06 (i : Int) s n E ⟨B.used + 1, B.wh⟩ := by
        rw [ensS, r]
        rfl
      have hg : gds f (n + 1) B.used = gds f n (B.used + 1) := by rw [gds, if_pos e]; omega
      have ih := ens_c hs hw n E ⟨B.used + 1, B.wh⟩ (by show B.used + 1 + n = 6; omega) c1 c2 (fun k hk => by rw [c3]; exact hb k hk) (fun k hk hf x hx => by rw [c4 _ (by omega)]; exact hz k hk hf x hx)
      rw [he, hg]
      refine ⟨fun h => ?_, fun h => ?_⟩
      · obtain ⟨E', k, k1, k2, k3, k4, k5, k6, k7, k8, k9, k10⟩ := ih.1 h
        exact ⟨E', k, by have : B.used + 1 ≤ k := k1; omega, k2, k3, k4, k5, k6, k7, k8.trans c3, fun x hx hx2 => (k9 x hx hx2).trans (c4 x hx), k10⟩
      · obtain ⟨E', k4, k6, k7, k8, k9⟩ := ih.2 h
        exact ⟨E', k4, k6, k7, k8.trans c3, fun x hx => (k9 x hx).trans (c4 x hx)⟩
    | false =>
      have hg : gds f (n + 1) B.used = gds f n (B.used + 1) + 1 := by rw [gds, if_neg (by rw [e]; simp)]; omega
      refine ⟨fun _ => ?_, fun h => by omega⟩
      obtain ⟨E, r, c1, c2, c3, c4, c5⟩ := rep_good (i := i) hc hn (by omega) ((hb _ (by omega)).trans e) hs
      refine ⟨E, B.used, Nat.le_refl _, by omega, e, ?_, ?_, c1, c2, c3, c4, c5⟩
      · rw [ensS, r]
        rfl
      · rw [hg, show 6 - (B.used + 1) = n by omega]
theorem zero_line {D : DevS} {l : Nat} (h : Calm D) (h0 : ∀ x, x < 8 → D.med (8 * l + x) = 0) : (⟨(getT D l).toArray⟩ : ByteArray) = fullS ⟨#[]⟩ :=
  getT_of h (fullS_size _) fun k hk => by
    rw [h0 k hk]
    rcases (show k = 0 ∨ k = 1 ∨ k = 2 ∨ k = 3 ∨ k = 4 ∨ k = 5 ∨ k = 6 ∨ k = 7 by omega) with rfl | rfl | rfl | rfl | rfl | rfl | rfl | rfl <;> decide +kernel
/-- A round of the law's. -/
theorem round_c {D : DevS} {B : BkS} {good : Nat} (h : CI D B f good i) (hi : i < 8) (hb : D.bad (1 + i) = true) (hs : s.size = 64) (hw : wdL s.data.toList 0 ≠ 0) :
    ∃ E B', writeS p06 (i : Int) s D B = ((if good ≤ i then 10 else 0), E, B') ∧ CI E B' f good (i + 1) ∧ E.bad = D.bad ∧ readR E p06 B' (i : Int) = ((if good ≤ i then fullS ⟨#[]⟩ else s), 0) := by
  obtain ⟨l1, l2⟩ := h.ln0 i (Nat.le_refl _) hi
  have hin : inP p06 (i : Int) := ⟨by omega, by show (i : Int) < 8; omega⟩
  have hpl : placeP p06 B (i : Int) = ((1 + i : Nat) : Int) := by unfold placeP; rw [l1]; exact line06 i
  obtain ⟨E2, e2, s2⟩ := put_calm (l := 1 + i) h.calm (by rw [h.n]; omega) hs
  have m2 : ∀ x, E2.med x = D.med x := fun x => by rw [s2.med, if_neg (fun e => by rw [hb] at e; cases e.2.2)]
  have t2 : tookB E2 ((1 + i : Nat) : Int) s = false := took_not (k := 0) (by omega) (by rw [m2, l2 0 (by omega)]; exact fun e => hw e.symm)
  have hus := h.us
  have hN : (p06.s - (B.used : Int)).toNat = 6 - B.used := by show ((6 : Int) - (B.used : Int)).toNat = _; omega
  have hwr : writeS p06 (i : Int) s D B = ensS p06 (i : Int) s (6 - B.used) E2 B := by
    unfold writeS
    rw [if_neg (by simp [hs]), if_pos hin, hpl, e2]
    show (if (0 : Int) ≠ 0 then _ else _) = _
    rw [if_neg (by simp)]
    show ensureS p06 (i : Int) ((1 + i : Nat) : Int) s E2 B = _
    unfold ensureS
    rw [t2, hN]
    rfl
  obtain ⟨q1, q2⟩ := ens_c (f := f) (i := i) hs hw (6 - B.used) E2 B (by omega) s2.calm (by rw [s2.n, h.n]) (fun k hk => by rw [s2.bad]; exact h.bs k hk) (fun k hk hf x hx => by rw [m2]; exact h.sp0 k hk hf x hx)
  have hcn := h.cn
  by_cases hg : good ≤ i
  · obtain ⟨E, k4, k6, k7, k8, k9⟩ := q2 (by omega)
    refine ⟨E, ⟨6, B.wh⟩, by rw [hwr, k4, if_pos hg], ⟨k6, k7, fun k hk => by rw [k8, s2.bad]; exact h.bs k hk, fun k hk hf x hx => by rw [k9 _ (by omega), m2]; exact h.sp0 k hk hf x hx, fun j hj hj8 => ?_, Nat.le_refl _, ?_⟩, k8.trans s2.bad, ?_⟩
    · obtain ⟨a1, a2⟩ := h.ln0 j (by omega) hj8
      exact ⟨a1, fun x hx => by rw [k9 _ (by omega), m2]; exact a2 x hx⟩
    · show gds f 0 6 = _
      rw [gds]; omega
    · unfold readR
      rw [if_pos hin, k6.off, show placeP p06 ⟨6, B.wh⟩ (i : Int) = ((1 + i : Nat) : Int) from hpl, Int.toNat_natCast, zero_line k6 (fun x hx => by rw [k9 _ (by omega), m2]; exact l2 x hx), if_pos hg]
      rfl
  · obtain ⟨E, k, k1, k2, k3, k4, k5, k6, k7, k8, k9, k10⟩ := q1 (by omega)
    refine ⟨E, ⟨k + 1, updZ B.wh (i : Int) (some k)⟩, by rw [hwr, k4, if_neg hg], ⟨k6, k7, fun k hk => by rw [k8, s2.bad]; exact h.bs k hk, fun k' hk hf x hx => ?_, fun j hj hj8 => ?_, by show k + 1 ≤ 6; omega, by show gds f (6 - (k + 1)) (k + 1) = _; omega⟩, k8.trans s2.bad, ?_⟩
    · have hne : k' ≠ k := fun e => by rw [e, k3] at hf; cases hf
      rw [k9 _ (by omega) (by omega), m2]
      exact h.sp0 k' hk hf x hx
    · obtain ⟨a1, a2⟩ := h.ln0 j (by omega) hj8
      refine ⟨?_, fun x hx => by rw [k9 _ (by omega) (by omega), m2]; exact a2 x hx⟩
      show updZ B.wh (i : Int) (some k) (j : Int) = none
      unfold updZ
      rw [if_neg (by omega)]
      exact a1
    · have hpl2 : placeP p06 ⟨k + 1, updZ B.wh (i : Int) (some k)⟩ (i : Int) = ((9 + k : Nat) : Int) := by
        unfold placeP
        rw [show (⟨k + 1, updZ B.wh (i : Int) (some k)⟩ : BkS).wh (i : Int) = some k by show updZ B.wh (i : Int) (some k) (i : Int) = _; unfold updZ; rw [if_pos rfl]]
        exact spare06 k
      unfold readR
      rw [if_pos hin, k6.off, hpl2, Int.toNat_natCast, getT_of k6 hs k10, if_neg hg]
      rfl
end
end Go.Proofs.YtdgcninmpcmdcaaGreat

/-
  SpareTorn, pure: what is read behind Boot and Open.
-/
namespace Go.Proofs.YtdgcninmpcmdcaaGreat
open Go.RowKit
set_option linter.unusedVariables false

section
variable {p : PlanZ} {D E : DevS} {B B' : BkS} {s : ByteArray} {i : Int}
theorem write_ok {l : Nat} (hc : Calm D) (hi : inP p i) (hp : placeP p B i = (l : Int)) (hl : l < D.n) (hb : D.bad l = false) (hs : s.size = 64) : ∃ E, writeS p i s D B = (0, E, B) ∧ PutS D E l (8 * l) 8 (wdL s.data.toList) := by
  obtain ⟨E, e1, e2⟩ := put_calm (l := l) hc hl hs
  refine ⟨E, ?_, e2⟩
  unfold writeS
  rw [if_neg (by simp [hs]), if_pos hi, hp, e1]
  show (if (0 : Int) ≠ 0 then _ else _) = _
  rw [if_neg (by simp)]
  show ensureS p i (l : Int) s E B = _
  unfold ensureS
  rw [took_of (by rw [e2.n]; exact hl) hs (fun k hk => by
    rw [e2.med, if_pos ⟨by omega, by omega, hb⟩]
    congr 1
    omega)]
  rfl
theorem Kept.boot {l0 : Nat} {G : (Nat → Nat) → Prop} {L : List Nat} (kp : Nat → Bool) (h : Kept p i l0 D B (bare E) B' G) (hok : okZ p = true) (hd : Live E) (hL : IsPend E L) : Kept p i l0 D B (bootD E L kp) B' G := by
  have hm : (bootD E L kp).med = (bare E).med := boot_live kp hd hL
  refine ⟨h.ti.congr hok (boot_calm E L kp) rfl rfl hm, h.n, h.bad, fun x h1 h2 => by rw [hm]; exact h.fr x h1 h2, h.wh, ?_⟩
  rw [hm]
  exact h.got
/-- What a write leaves behind Boot. -/
theorem WrL.boot {l0 : Nat} {C : (Nat → Nat) → Prop} {e : Int} {L : List Nat} (kp : Nat → Bool) (h : WrL p i l0 s D B C e E B') (hok : okZ p = true) (hC : ∀ F, One2 (fun k => D.med (8 * l0 + k)) (wdL s.data.toList) F → C F) (hL : IsPend E L) :
    (e = 0 ∨ e = 10 ∨ e = 6) ∧ ∃ B'', Kept p i l0 D B (bootD E L kp) B'' (fun F => (e = 0 → IsW (wdL s.data.toList) F) ∧ (e = 10 → IsW (fun k => D.med (8 * l0 + k)) F) ∧ C F) := by
  unfold WrL at h
  rcases h with ⟨rfl, a2, a3⟩ | ⟨rfl, a2, a3⟩ | ⟨rfl, a2, a3, a4, a5⟩
  · exact ⟨.inl rfl, B', (a3.boot kp hok a2 hL).imp fun F hF => ⟨fun _ => hF, fun e => by omega, hC F (.inr hF)⟩⟩
  · exact ⟨.inr (.inl rfl), B', (a3.boot kp hok a2 hL).imp fun F hF => ⟨fun e => by omega, fun _ => hF, hC F (.inl hF)⟩⟩
  · obtain ⟨B3, z⟩ := a5 L kp hL
    exact ⟨.inr (.inr rfl), B3, z.imp fun F hF => ⟨fun e => by omega, fun e => by omega, hF⟩⟩
theorem line_words {l : Nat} (hc : Calm D) (hm : ∀ x, D.med x < 18446744073709551616) (k : Nat) (hk : k < 8) : wdL (⟨(getT D l).toArray⟩ : ByteArray).data.toList k = D.med (8 * l + k) := by
  have e : lineF D l = fun j => D.med (8 * l + j) := lineF_live ⟨hc.off, hc.buf⟩ l
  rw [lineF_text, e, wd_textU (fun j => hm _) k hk]
theorem line_size (D : DevS) (l : Nat) : (⟨(getT D l).toArray⟩ : ByteArray).size = 64 := by
  rw [lineF_text]; exact textU_size _
end
def pT : PlanZ := ⟨1, 3, 5⟩
def B0 : BkS := ⟨0, fun _ => none⟩
/-- The device ahead of the write. -/
structure TS (D : DevS) (A C : ByteArray) : Prop where
  live : Live D
  n : D.n = 12
  ti : TI pT (bare D) B0
  l0 : ∀ k, k < 8 → D.med (16 + k) = wdL A.data.toList k
  l1 : ∀ k, k < 8 → D.med (24 + k) = wdL C.data.toList k
  l2 : ∀ k, k < 8 → D.med (32 + k) = 0
section
variable {D E : DevS} {B' : BkS} {S A T : ByteArray}
theorem torn_reads {C : (Nat → Nat) → Prop} {e : Int} {L : List Nat} {kp : Nat → Bool} (h : TS D A T) (hW : WrL pT 0 2 S D B0 C e E B') (hC : ∀ F, One2 (fun k => D.med (8 * 2 + k)) (wdL S.data.toList) F → C F)
    (hA : A.size = 64) (hT : T.size = 64) (hS : S.size = 64) (hL : IsPend E L) (hm : ∀ x, (bootD E L kp).med x < 18446744073709551616) :
    (e = 0 ∨ e = 10 ∨ e = 6) ∧ ∃ (B'' : BkS) (got : ByteArray), TI pT (bootD E L kp) B'' ∧ (bootD E L kp).n = 12 ∧ readR (bootD E L kp) pT B'' 0 = (got, 0) ∧ readR (bootD E L kp) pT B'' 1 = (T, 0) ∧ readR (bootD E L kp) pT B'' 2 = (fullS ⟨#[]⟩, 0) ∧ got.size = 64 ∧
      (e = 0 → got = S) ∧ (e = 10 → got = A) ∧ ∃ F, C F ∧ ∀ k, k < 8 → wdL got.data.toList k = F k := by
  obtain ⟨he, B'', hK⟩ := hW.boot kp (by decide) hC hL
  refine ⟨he, B'', ?_⟩
  obtain ⟨l, g1, g2, g3, g4, g5⟩ := hK.got
  have hc := hK.ti.calm
  have hw := fun k hk => line_words (l := l) hc hm k hk
  have fr : ∀ x : Nat, 24 ≤ x → x < 40 → (bootD E L kp).med x = D.med x := fun x h1 h2 => hK.fr x (.inr (.inl ⟨by show 8 * ((1 : Int) + (5 + 7) / 8) ≤ _; omega, by show (x : Int) < 8 * ((1 : Int) + (5 + 7) / 8 + 3 + 0); omega⟩)) (by omega)
  have w1 : B''.wh 1 = none := hK.wh 1 (by omega)
  have w2 : B''.wh 2 = none := hK.wh 2 (by omega)
  have p1 : placeP pT B'' 1 = ((3 : Nat) : Int) := by unfold placeP; rw [w1]; decide
  have p2 : placeP pT B'' 2 = ((4 : Nat) : Int) := by unfold placeP; rw [w2]; decide
  refine ⟨⟨(getT (bootD E L kp) l).toArray⟩, hK.ti, hK.n.trans h.n, ?_, ?_, ?_, line_size _ _, fun e0 => ?_, fun e0 => ?_, _, g5, fun k hk => hw k hk⟩
  · unfold readR
    rw [if_pos (by decide), hc.off, g1, Int.toNat_natCast]
    rfl
  · unfold readR
    rw [if_pos (by decide), hc.off, p1, Int.toNat_natCast, getT_of hc hT fun k hk => by rw [fr _ (by omega) (by omega)]; exact h.l1 k hk]
    rfl
  · unfold readR
    rw [if_pos (by decide), hc.off, p2, Int.toNat_natCast, zero_line hc fun k hk => by rw [fr _ (by omega) (by omega)]; exact h.l2 k hk]
    rfl
  · exact bytes_eq (line_size _ _) hS fun k hk => by rw [hw k hk]; exact g3 e0 k hk
  · exact bytes_eq (line_size _ _) hA fun k hk => by rw [hw k hk, ← h.l0 k hk]; exact g4 e0 k hk
end
/-- The law's word, among those of A. -/
def wordS (A : ByteArray) : ByteArray := A.extract 0 8 ++ ⟨#[1, 2, 3, 4, 5, 6, 7, 8]⟩ ++ A.extract 16 64
theorem wordS_data {A : ByteArray} : (wordS A).data.toList = (A.data.toList.take 8 ++ [1, 2, 3, 4, 5, 6, 7, 8]) ++ (A.data.toList.drop 16).take 48 := by
  unfold wordS
  rw [ByteArray.data_append, Array.toList_append, ByteArray.data_append, Array.toList_append]
  simp only [ByteArray.data_extract, Array.toList_extract, List.extract_eq_take_drop, List.drop_zero]
theorem wordS_size {A : ByteArray} (hA : A.size = 64) : (wordS A).size = 64 := by
  show (wordS A).data.toList.length = 64
  have a : A.data.toList.length = 64 := hA
  rw [wordS_data, List.length_append, List.length_append, List.length_take, List.length_take, List.length_drop, a]
  rfl
theorem wordS_word {A : ByteArray} (hA : A.size = 64) (k : Nat) (hk : k < 8) : wdL (wordS A).data.toList k = updF (wdL A.data.toList) 1 578437695752307201 k := by
  have a : A.data.toList.length = 64 := hA
  have t8 : (A.data.toList.take 8).length = 8 := by rw [List.length_take, a]; rfl
  have t16 : (A.data.toList.take 8 ++ [1, 2, 3, 4, 5, 6, 7, 8]).length = 16 := by rw [List.length_append, t8]; rfl
  unfold wdL updF
  rw [wordS_data]
  by_cases c1 : k = 1
  · subst c1
    rw [if_pos rfl, List.append_assoc, show 8 * 1 = (A.data.toList.take 8).length by rw [t8], List.drop_left]
    rw [List.take_append_of_le_length (by decide)]
    decide
  · rw [if_neg c1]
    show _ = getL (List.take 8 (List.drop (8 * k) A.data.toList))
    by_cases c0 : k = 0
    · subst c0
      rw [Nat.mul_zero, List.drop_zero, List.drop_zero, List.append_assoc, List.take_append_of_le_length (by rw [t8]; omega), List.take_take, Nat.min_self]
    · rw [show 8 * k = (A.data.toList.take 8 ++ [1, 2, 3, 4, 5, 6, 7, 8]).length + (8 * k - 16) by rw [t16]; omega, List.drop_append, List.drop_eq_nil_of_le (by omega), List.nil_append, t16, List.drop_take, List.drop_drop, List.take_take]
      rw [show 16 + (8 * k - 16) - 16 = 8 * k - 16 by omega, show 16 + (8 * k - 16) = 8 * k by omega, Nat.min_eq_left (by omega)]
theorem wordS_text {D : DevS} {A : ByteArray} (hA : A.size = 64) (h0 : ∀ k, k < 8 → D.med (16 + k) = wdL A.data.toList k) (hm : ∀ x, D.med x < 18446744073709551616) : textU (updF (fun j => D.med (8 * 2 + j)) 1 578437695752307201) = wordS A := by
  have hF : ∀ j, updF (fun j => D.med (8 * 2 + j)) 1 578437695752307201 j < 18446744073709551616 := fun j => by
    unfold updF; split
    · omega
    · exact hm _
  refine bytes_eq (textU_size _) (wordS_size hA) fun k hk => ?_
  rw [wd_textU hF k hk, wordS_word hA k hk]
  unfold updF
  split
  · rfl
  · exact h0 k hk
end Go.Proofs.YtdgcninmpcmdcaaGreat
