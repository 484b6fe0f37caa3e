/-
  PkAp: SpAd, SpBa, PmRa.
-/
import Derived.Test.YtjbhallhmnahbaaGreatPkAo
import Derived.Test.YtjbhallhmnahbaaGreatPkAf

set_option linter.unusedVariables false

/-
  Layer 5: what lasts of a Write and a WriteWord, on a device that may have a fuse.
-/
namespace Go.Proofs.YtjbhallhmnahbaaGreat
open Go.RowKit
set_option linter.unusedVariables false

section
variable {p : PlanZ} {D : DevS} {B : BkS} {s : ByteArray} {i : Int}
theorem openS_rg : ∀ (r k : Nat) (B B' : BkS), openS p D r k B = (0, B') → B.used ≤ k → (∀ x j, B.wh x = some j → j < B.used) → ∀ x j, B'.wh x = some j → j < B'.used
  | 0, k, B, B', h, _, hw => by
    have : B = B' := (Prod.mk.inj h).2
    rw [← this]; exact hw
  | r + 1, k, B, B', h, hu, hw => by
    rw [openS] at h
    by_cases c : (noteS p k (loadV D (8 * p.a.toNat + k)) B).1 ≠ 0
    · rw [if_pos c] at h
      cases h
    · rw [if_neg c] at h
      generalize loadV D (8 * p.a.toNat + k) = v at *
      refine openS_rg r (k + 1) _ B' h ?_ ?_
      · unfold noteS at c ⊢
        split
        · exact Nat.le_succ_of_le hu
        · split
          · exact Nat.le_succ_of_le hu
          · show B.used + 1 ≤ k + 1
            omega
      · unfold noteS at c ⊢
        split
        · exact hw
        · split
          · exact hw
          · rename_i v0 nb
            have hk : k ≤ B.used := by unfold noteBad at nb; omega
            intro x j e
            show j < B.used + 1
            have e2 : (noteB k v B).wh x = some j := e
            unfold noteB at e2
            simp only at e2
            split at e2
            · have := hw x j e2; omega
            · unfold updZ at e2
              split at e2
              · injection e2 with e2; omega
              · have := hw x j e2; omega
theorem TI.ws (h : TI p D B) : ∀ x j, B.wh x = some j → j < B.used := openS_rg _ 0 _ _ h.op (Nat.le_refl _) (fun x j e => by cases e)
theorem TI.place (h : TI p D B) (hok : okZ p = true) (hi : inP p i) : ∃ l : Nat, placeP p B i = (l : Int) ∧ l < D.n ∧ p.a + tabZ p ≤ (l : Int) ∧ (l : Int) < spareP p (B.used : Int) := by
  obtain ⟨h1, h2, h3, h4, h5, h6⟩ := (okZ_iff p).1 hok
  obtain ⟨i0, i9⟩ : 0 ≤ i ∧ i < p.l := hi
  have ht0 : 0 ≤ tabZ p := by unfold tabZ; omega
  have hsz : sizeZ p = tabZ p + p.l + p.s := by unfold sizeZ; rw [if_pos hok]
  have hfit := h.fits
  have hus := h.us
  unfold placeP
  cases e : B.wh i with
  | some k =>
    have := h.ws i k e
    exact ⟨(spareP p k).toNat, by simp only; unfold spareP; omega, by unfold spareP; omega, by unfold spareP; omega, by unfold spareP; omega⟩
  | none => exact ⟨(lineP p i).toNat, by simp only; unfold lineP; omega, by unfold lineP; omega, by unfold lineP; omega, by unfold lineP spareP; omega⟩
structure Kept (p : PlanZ) (i : Int) (l0 : Nat) (D : DevS) (B : BkS) (E : DevS) (B' : BkS) (G : (Nat → Nat) → Prop) : Prop where
  ti : TI p E B'
  n : E.n = D.n
  bad : E.bad = D.bad
  fr : ∀ x, FrX p B.used x → (x < 8 * l0 ∨ 8 * l0 + 8 ≤ x) → E.med x = D.med x
  wh : ∀ j, j ≠ i → B'.wh j = B.wh j
  got : ∃ l : Nat, placeP p B' i = (l : Int) ∧ l < D.n ∧ G (fun k => E.med (8 * l + k))
def IsW (F : Nat → Nat) (G : Nat → Nat) : Prop := ∀ k, k < 8 → G k = F k
def Mix2 (F H : Nat → Nat) (G : Nat → Nat) : Prop := ∀ k, k < 8 → G k = F k ∨ G k = H k
def One2 (F H : Nat → Nat) (G : Nat → Nat) : Prop := IsW F G ∨ IsW H G
theorem One2.mix {F H G : Nat → Nat} (h : One2 F H G) : Mix2 F H G := fun k hk => h.elim (fun q => .inl (q k hk)) (fun q => .inr (q k hk))
theorem Kept.imp {l0 : Nat} {E : DevS} {B' : BkS} {G G' : (Nat → Nat) → Prop} (h : Kept p i l0 D B E B' G) (hG : ∀ F, G F → G' F) : Kept p i l0 D B E B' G' :=
  ⟨h.ti, h.n, h.bad, h.fr, h.wh, by obtain ⟨l, a, b, c⟩ := h.got; exact ⟨l, a, b, hG _ c⟩⟩
def WrL (p : PlanZ) (i : Int) (l0 : Nat) (s : ByteArray) (D : DevS) (B : BkS) (C : (Nat → Nat) → Prop) (e : Int) (E : DevS) (B' : BkS) : Prop :=
  (e = 0 ∧ Live E ∧ Kept p i l0 D B (bare E) B' (IsW (wdL s.data.toList))) ∨ (e = 10 ∧ Live E ∧ Kept p i l0 D B (bare E) B' (IsW fun k => D.med (8 * l0 + k))) ∨
  (e = 6 ∧ E.off = true ∧ E.n = D.n ∧ E.bad = D.bad ∧ ∀ L kp, IsPend E L → ∃ B'', Kept p i l0 D B (bootD E L kp) B'' C)
theorem Lasts.kept {l0 : Nat} {E2 E : DevS} {B' : BkS} {t : Bool} (h : Lasts p i s B.used E2 B E B' t) (hp : placeP p B i = (l0 : Int)) (hl1 : p.a + tabZ p ≤ (l0 : Int)) (hl2 : (l0 : Int) < spareP p (B.used : Int)) (hln : l0 < D.n)
    (hn : E2.n = D.n) (hb : E2.bad = D.bad) (hm : E2.med = D.med) :
    (t = true → Kept p i l0 D B E B' (IsW (wdL s.data.toList))) ∧ (t = false → Kept p i l0 D B E B' (IsW fun k => D.med (8 * l0 + k))) := by
  refine ⟨fun e => ?_, fun e => ?_⟩
  · obtain ⟨k, l, a1, a2, a3, a4, a5⟩ := h.yes e
    refine ⟨h.ti, h.n.trans hn, h.bad.trans hb, fun x hx _ => by rw [h.fr x hx, hm], fun j hj => by rw [a1]; unfold updZ; rw [if_neg hj], l, ?_, by rw [← hn]; exact a4, fun k hk => a5 k hk⟩
    unfold placeP
    rw [a1]
    unfold updZ
    rw [if_pos rfl]
    exact a3
  · have hw := h.no e
    refine ⟨h.ti, h.n.trans hn, h.bad.trans hb, fun x hx _ => by rw [h.fr x hx, hm], fun j hj => by rw [hw], l0, ?_, hln, fun k hk => ?_⟩
    · rw [← hp]
      unfold placeP
      rw [hw]
    · show E.med _ = _
      rw [h.fr _ (by unfold FrX; omega), hm]
theorem ensure_last {l0 m b : Nat} {f : Nat → Nat} {E2 : DevS} {C : (Nat → Nat) → Prop} (hok : okZ p = true) (hi : inP p i) (hs : s.size = 64) (h : TI p (bare D) B) (hp : placeP p B i = (l0 : Int)) (hl1 : p.a + tabZ p ≤ (l0 : Int)) (hl2 : (l0 : Int) < spareP p (B.used : Int)) (hln : l0 < D.n)
    (hw : Whole D E2 l0 b m f) (hb1 : 8 * l0 ≤ b) (hb2 : b + m ≤ 8 * l0 + 8) (hgood : D.bad l0 = false → ∀ k, k < 8 → E2.med (8 * l0 + k) = wdL s.data.toList k) (hC : ∀ F, One2 (fun k => D.med (8 * l0 + k)) (wdL s.data.toList) F → C F) :
    ∃ e E B', ensureS p i (l0 : Int) s E2 B = (e, E, B') ∧ WrL p i l0 s D B C e E B' := by
  have T2 : TI p (bare E2) B := h.keep (bare_calm E2) (by show E2.n = _; rw [hw.n]; rfl) (fun x hx => by show E2.med x = D.med x; rw [hw.med, if_neg (by omega)]) hok (fun l q1 q2 => by show E2.bad l = _; rw [hw.bad]; exact h.tb l q1 q2)
  unfold ensureS
  cases ht : tookB E2 (l0 : Int) s with
  | true =>
    refine ⟨0, E2, B, rfl, .inl ⟨rfl, hw.live, T2, hw.n, hw.bad, fun x _ hx => ?_, fun _ _ => rfl, l0, hp, hln, fun k hk => took_words ht k hk⟩⟩
    show E2.med x = _
    rw [hw.med, if_neg (by omega)]
  | false =>
    have hbad : D.bad l0 = true := by
      cases hb : D.bad l0 with
      | true => rfl
      | false =>
        have := took_of (l := l0) (D := E2) (s := s) (by rw [hw.n]; exact hln) hs (hgood hb)
        rw [ht] at this
        cases this
    have hm : E2.med = D.med := by
      funext x
      rw [hw.med, if_neg (fun e => by rw [hbad] at e; cases e.2.2)]
    have hus := T2.us
    obtain ⟨e, E, B', q1, q2⟩ := ens_last hok hi hs (p.s - (B.used : Int)).toNat E2 B T2 hw.live (by omega)
    refine ⟨e, E, B', by simpa using q1, ?_⟩
    unfold EnsL at q2
    unfold WrL
    rcases q2 with ⟨p1, p2, p3⟩ | ⟨p1, p2, p3⟩ | ⟨p1, p2, p3, p4, p5⟩
    · exact .inl ⟨p1, p2, (p3.kept hp hl1 hl2 hln hw.n hw.bad hm).1 rfl⟩
    · exact .inr (.inl ⟨p1, p2, (p3.kept hp hl1 hl2 hln hw.n hw.bad hm).2 rfl⟩)
    · refine .inr (.inr ⟨p1, p2, p3.trans hw.n, p4.trans hw.bad, fun L kp hL => ?_⟩)
      obtain ⟨B3, t3, z⟩ := p5 L kp hL
      have zz := z.kept hp hl1 hl2 hln hw.n hw.bad hm
      cases t3 with
      | true => exact ⟨B3, (zz.1 rfl).imp fun F hF => hC F (.inr hF)⟩
      | false => exact ⟨B3, (zz.2 rfl).imp fun F hF => hC F (.inl hF)⟩
theorem write_last (h : TI p (bare D) B) (hd : Live D) (hok : okZ p = true) (hi : inP p i) (hs : s.size = 64) : ∃ (l0 : Nat) (e : Int) (E : DevS) (B' : BkS), placeP p B i = (l0 : Int) ∧ writeS p i s D B = (e, E, B') ∧ WrL p i l0 s D B (Mix2 (fun k => D.med (8 * l0 + k)) (wdL s.data.toList)) e E B' := by
  obtain ⟨l0, hp, hln, hl1, hl2⟩ := h.place hok hi
  have hln2 : l0 < D.n := hln
  refine ⟨l0, ?_⟩
  rcases put_live (l := l0) hd hln2 hs with ⟨E2, e2, s2⟩ | ⟨E, e2, s2⟩
  · obtain ⟨e, E, B', q1, q2⟩ := ensure_last (C := Mix2 (fun k => D.med (8 * l0 + k)) (wdL s.data.toList)) hok hi hs h hp hl1 hl2 hln2 s2 (Nat.le_refl _) (Nat.le_refl _) (fun hb k hk => by
      rw [s2.med, if_pos ⟨by omega, by omega, hb⟩]
      congr 1
      omega) (fun F hF => hF.mix)
    refine ⟨e, E, B', hp, ?_, q2⟩
    unfold writeS
    rw [if_neg (by simp [hs]), if_pos hi, hp, e2]
    show (if (0 : Int) ≠ 0 then _ else _) = _
    rw [if_neg (by simp)]
    exact q1
  · refine ⟨6, E, B, hp, ?_, .inr (.inr ⟨rfl, s2.off, s2.n, s2.bad, fun L kp hL => ⟨B, ?_⟩⟩)⟩
    · unfold writeS
      rw [if_neg (by simp [hs]), if_pos hi, hp, e2]
      rfl
    · have hb := boot_torn kp s2 hL
      have hm : ∀ x, (x < 8 * l0 ∨ 8 * l0 + 8 ≤ x) → (bootD E L kp).med x = D.med x := fun x hx => by
        rcases hb x with e | ⟨j, j1, j2, _⟩
        · exact e
        · omega
      refine ⟨h.keep (boot_calm E L kp) s2.n (fun x hx => hm x (by omega)) hok (fun l q1 q2 => by rw [bootD_bad, s2.bad]; exact h.tb l q1 q2), s2.n, s2.bad, fun x _ hx => hm x hx, fun _ _ => rfl, l0, hp, hln2, fun k hk => ?_⟩
      rcases hb (8 * l0 + k) with e | ⟨j, j1, j2, j3, _⟩
      · exact .inl e
      · right
        show (bootD E L kp).med (8 * l0 + k) = _
        rw [j3]
        congr 1
        omega
theorem lineF_live (hd : Live D) (l : Nat) : lineF D l = fun j => D.med (8 * l + j) := by
  funext j
  unfold lineF loadV
  rw [hd.buf]
theorem wd_textU {F : Nat → Nat} (hF : ∀ j, F j < 18446744073709551616) (k : Nat) (hk : k < 8) : wdL (textU F).data.toList k = F k := by
  have e : (textU F).data.toList = catL [F 0, F 1, F 2, F 3, F 4, F 5, F 6, F 7] := by simp [textU]
  rw [e]
  refine wdL_all _ (fun n hn => ?_) k _ ?_
  · simp only [List.mem_cons, List.not_mem_nil, or_false] at hn
    rcases hn with rfl | rfl | rfl | rfl | rfl | rfl | rfl | rfl <;> exact hF _
  · rcases lt8 hk with rfl | rfl | rfl | rfl | rfl | rfl | rfl | rfl <;> rfl
theorem ww_last {k v : Nat} (h : TI p (bare D) B) (hd : Live D) (hmed : ∀ x, D.med x < 18446744073709551616) (hv : v < 18446744073709551616) (hok : okZ p = true) (hi : inP p i) (hk : k < 8) :
    ∃ (l0 : Nat) (e : Int) (E : DevS) (B' : BkS), placeP p B i = (l0 : Int) ∧ writeWordS p i (k : Int) v D B = (e, E, B') ∧ WrL p i l0 (textU (updF (fun j => D.med (8 * l0 + j)) k v)) D B (One2 (fun k => D.med (8 * l0 + k)) (updF (fun j => D.med (8 * l0 + j)) k v)) e E B' := by
  obtain ⟨l0, hp, hln, hl1, hl2⟩ := h.place hok hi
  have hln2 : l0 < D.n := hln
  have hF2 : ∀ j, updF (fun j => D.med (8 * l0 + j)) k v j < 18446744073709551616 := fun j => by
    unfold updF; split
    · exact hv
    · exact hmed _
  have hwr : writeWordS p i (k : Int) v D B = if (pwE D (l0 : Int) (k : Int) v).1 ≠ 0 then ((pwE D (l0 : Int) (k : Int) v).1, (pwE D (l0 : Int) (k : Int) v).2, B) else ensureS p i (l0 : Int) (textU (updF (fun j => D.med (8 * l0 + j)) k v)) (pwE D (l0 : Int) (k : Int) v).2 B := by
    unfold writeWordS
    rw [if_neg (by omega), if_pos hi, hd.off, hp, Int.toNat_natCast, Int.toNat_natCast, lineF_live hd]
    simp
  obtain ⟨S, hS⟩ : ∃ S, S = textU (updF (fun j => D.med (8 * l0 + j)) k v) := ⟨_, rfl⟩
  have hS64 : S.size = 64 := by rw [hS]; exact textU_size _
  have hSw : ∀ j, j < 8 → wdL S.data.toList j = updF (fun j => D.med (8 * l0 + j)) k v j := fun j hj => by rw [hS]; exact wd_textU hF2 j hj
  rw [← hS] at hwr
  refine ⟨l0, ?_⟩
  rw [← hS]
  rcases putword_live (l := l0) (k := k) (v := v) hd hln2 hk with ⟨E2, e2, s2⟩ | ⟨E, e2, s2⟩
  · obtain ⟨e, E, B', q1, q2⟩ := ensure_last (C := One2 (fun k => D.med (8 * l0 + k)) (updF (fun j => D.med (8 * l0 + j)) k v)) hok hi hS64 h hp hl1 hl2 hln2 s2 (by omega) (by omega) (fun hb j hj => by
      rw [s2.med, hSw j hj]
      unfold updF
      by_cases c : j = k
      · rw [if_pos c, if_pos ⟨by omega, by omega, hb⟩]
      · rw [if_neg c, if_neg (by omega)]) (fun F hF => hF.elim .inl fun q => .inr fun j hj => by rw [q j hj, hSw j hj])
    refine ⟨e, E, B', hp, ?_, q2⟩
    rw [hwr, e2]
    show (if (0 : Int) ≠ 0 then _ else _) = _
    rw [if_neg (by simp)]
    exact q1
  · refine ⟨6, E, B, hp, ?_, .inr (.inr ⟨rfl, s2.off, s2.n, s2.bad, fun L kp hL => ⟨B, ?_⟩⟩)⟩
    · rw [hwr, e2]
      rfl
    · have hb := boot_torn kp s2 hL
      have hm : ∀ x, (x < 8 * l0 ∨ 8 * l0 + 8 ≤ x) → (bootD E L kp).med x = D.med x := fun x hx => by
        rcases hb x with e | ⟨j, j1, j2, _⟩
        · exact e
        · omega
      refine ⟨h.keep (boot_calm E L kp) s2.n (fun x hx => hm x (by omega)) hok (fun l q1 q2 => by rw [bootD_bad, s2.bad]; exact h.tb l q1 q2), s2.n, s2.bad, fun x _ hx => hm x hx, fun _ _ => rfl, l0, hp, hln2, ?_⟩
      by_cases c : (bootD E L kp).med (8 * l0 + k) = v
      · right
        intro j hj
        show (bootD E L kp).med (8 * l0 + j) = _
        unfold updF
        by_cases d : j = k
        · rw [if_pos d, d, c]
        · rw [if_neg d]
          rcases hb (8 * l0 + j) with e | ⟨j', j1, j2, _⟩
          · exact e
          · omega
      · left
        intro j hj
        show (bootD E L kp).med (8 * l0 + j) = _
        rcases hb (8 * l0 + j) with e | ⟨j', j1, j2, j3, _⟩
        · exact e
        · exfalso
          apply c
          obtain rfl : j = k := by omega
          exact j3
end
end Go.Proofs.YtjbhallhmnahbaaGreat

/-
  Layer 5, pure: the marks of a table, and where they say that a line is.
-/
namespace Go.Proofs.YtjbhallhmnahbaaGreat
open Go.RowKit
set_option linter.unusedVariables false

def noteL : List Nat → Nat → BkS → BkS
  | [], _, B => B
  | m :: l, k, B => noteL l (k + 1) ⟨B.used + 1, if m = 65535 then B.wh else updZ B.wh ((m : Int) - 1) (some k)⟩
def whereF (p : PlanZ) (i : Int) : List Nat → Nat → Int → Int
  | [], _, z => z
  | m :: l, k, z => whereF p i l (k + 1) (if (m : Int) = i + 1 then spareP p (k : Int) else z)
def okM (p : PlanZ) (m : Nat) : Prop := m ≠ 0 ∧ m < 281474976710656 ∧ ((m : Int) ≤ p.l ∨ m = 65535)
theorem noteL_used : ∀ (l : List Nat) (k : Nat) (B : BkS), (noteL l k B).used = B.used + l.length
  | [], _, _ => rfl
  | m :: l, k, B => by
    rw [noteL, noteL_used l, List.length_cons]
    show B.used + 1 + l.length = _
    omega
theorem noteL_place {p : PlanZ} {i : Int} (hi : inP p i) (hl : p.l ≤ 1026) : ∀ (l : List Nat) (k : Nat) (B : BkS), placeP p (noteL l k B) i = whereF p i l k (placeP p B i)
  | [], _, _ => rfl
  | m :: l, k, B => by
    rw [noteL, whereF, noteL_place hi hl l]
    congr 1
    obtain ⟨i0, i1⟩ : 0 ≤ i ∧ i < p.l := hi
    by_cases c : (m : Int) = i + 1
    · rw [if_pos c]
      unfold placeP
      rw [if_neg (show ¬ m = 65535 by omega)]
      simp only
      unfold updZ
      rw [if_pos (show i = (m : Int) - 1 by omega)]
    · rw [if_neg c]
      unfold placeP
      by_cases d : m = 65535
      · rw [if_pos d]
      · rw [if_neg d]
        simp only
        unfold updZ
        rw [if_neg (show ¬ i = (m : Int) - 1 by omega)]
theorem guard_low {v : Nat} (hv : v < 18446744073709551616) (h : guardN v = v) : guardN (low48 v) = v := by
  have hp : putL (low48 v) 6 = putL v 6 := putL_eq_of_bits fun i hi => by
    unfold low48
    rw [show (281474976710656 : Nat) = 2 ^ 48 from rfl, Nat.testBit_mod_two_pow, decide_eq_true (by omega), Bool.true_and]
  have hl : guardN (low48 v) < 2 ^ 64 := guardN_lt _ (by unfold low48; omega)
  apply Nat.eq_of_testBit_eq
  intro i
  by_cases c : i < 64
  · rw [guard_bit _ i c, check_congr hp]
    by_cases d : 48 ≤ i
    · rw [if_pos d]
      have := guard_bit v i c
      rw [if_pos d, h] at this
      exact this.symm
    · rw [if_neg d]
      unfold low48
      rw [show (281474976710656 : Nat) = 2 ^ 48 from rfl, Nat.testBit_mod_two_pow, decide_eq_true (by omega), Bool.true_and]
  · rw [Nat.testBit_lt_two_pow (Nat.lt_of_lt_of_le hl (Nat.pow_le_pow_right (n := 2) (by omega) (show 64 ≤ i by omega))), Nat.testBit_lt_two_pow (Nat.lt_of_lt_of_le (show v < 2 ^ 64 from hv) (Nat.pow_le_pow_right (n := 2) (by omega) (show 64 ≤ i by omega)))]
structure Marks (p : PlanZ) (D : DevS) (l : List Nat) : Prop where
  len : (l.length : Int) ≤ p.s
  each : ∀ (j m : Nat), l[j]? = some m → loadV D (8 * p.a.toNat + j) = guardN m ∧ okM p m
  zero : ∀ j : Nat, l.length ≤ j → (j : Int) < p.s → loadV D (8 * p.a.toNat + j) = 0
section
variable {p : PlanZ} {D : DevS} {B : BkS}
theorem note_used {k v : Nat} {B : BkS} : (noteS p k v B).2.used ≤ B.used + 1 := by
  unfold noteS
  split
  · exact Nat.le_succ _
  · split
    · exact Nat.le_succ _
    · exact Nat.le_refl _
theorem openS_used : ∀ (r k : Nat) (B B' : BkS), openS p D r k B = (0, B') → B'.used ≤ B.used + r
  | 0, k, B, B', h => by
    have : B = B' := (Prod.mk.inj h).2
    rw [this]; exact Nat.le_refl _
  | r + 1, k, B, B', h => by
    rw [openS] at h
    by_cases c : (noteS p k (loadV D (8 * p.a.toNat + k)) B).1 ≠ 0
    · rw [if_pos c] at h
      cases h
    · rw [if_neg c] at h
      have h1 := openS_used r (k + 1) _ B' h
      have h2 : (noteS p k (loadV D (8 * p.a.toNat + k)) B).2.used ≤ B.used + 1 := note_used
      omega
theorem openS_marks (hm : ∀ i, loadV D i < 18446744073709551616) : ∀ (r k : Nat) (B B' : BkS), openS p D r k B = (0, B') → B'.used = B.used + r →
    ∃ l : List Nat, l.length = r ∧ B' = noteL l k B ∧ ∀ (j m : Nat), l[j]? = some m → loadV D (8 * p.a.toNat + (k + j)) = guardN m ∧ okM p m
  | 0, k, B, B', h, _ => ⟨[], rfl, (Prod.mk.inj h).2.symm, fun j m e => by simp at e⟩
  | r + 1, k, B, B', h, hu => by
    rw [openS] at h
    have hv := hm (8 * p.a.toNat + k)
    obtain ⟨v, hvv⟩ : ∃ v, v = loadV D (8 * p.a.toNat + k) := ⟨_, rfl⟩
    rw [← hvv] at h hv
    by_cases c : (noteS p k v B).1 ≠ 0
    · rw [if_pos c] at h
      cases h
    · rw [if_neg c] at h
      have h1 := openS_used r (k + 1) _ B' h
      have hv0 : v ≠ 0 := by
        intro e
        have : (noteS p k v B).2 = B := by unfold noteS; rw [if_pos e]
        rw [this] at h1
        omega
      have hnb : ¬ noteBad p k v B := by
        intro d
        apply c
        unfold noteS
        rw [if_neg hv0, if_pos d]
        simp
      have hn : noteS p k v B = (0, noteB k v B) := by unfold noteS; rw [if_neg hv0, if_neg hnb]
      rw [hn] at h
      obtain ⟨l, l1, l2, l3⟩ := openS_marks hm r (k + 1) (noteB k v B) B' h (by show B'.used = B.used + 1 + r; omega)
      refine ⟨low48 v :: l, by rw [List.length_cons, l1], ?_, fun j m e => ?_⟩
      · rw [l2, noteL]
        rfl
      · cases j with
        | zero =>
          rw [List.getElem?_cons_zero] at e
          injection e with e
          subst e
          have hg : guardN v = v := by
            by_cases d : guardN v = v
            · exact d
            · exact absurd (Or.inl d) hnb
          refine ⟨by rw [Nat.add_zero, ← hvv, guard_low hv hg], ?_, low48_lt v, ?_⟩
          · intro d
            exact hnb (.inr (.inr (.inl d)))
          · by_cases d : (low48 v : Int) ≤ p.l
            · exact .inl d
            · right
              by_cases f : low48 v = 65535
              · exact f
              · exact absurd (.inr (.inr (.inr ⟨by omega, f⟩))) hnb
        | succ j =>
          rw [List.getElem?_cons_succ] at e
          rw [show k + (j + 1) = k + 1 + j by omega]
          exact l3 j m e
theorem TI.marks (h : TI p (bare D) B) (hd : Live D) (hok : okZ p = true) (hm : ∀ x, D.med x < 18446744073709551616) : ∃ l : List Nat, Marks p D l ∧ l.length = B.used ∧ ∀ i, inP p i → whereF p i l 0 (lineP p i) = placeP p B i := by
  have hld : ∀ i, loadV D i = loadV (bare D) i := fun i => by unfold loadV; rw [hd.buf]; rfl
  have hld2 : ∀ i, loadV (bare D) i = D.med i := fun i => rfl
  obtain ⟨l, l1, l2, l3⟩ := openS_marks (fun i => by rw [hld2]; exact hm i) _ 0 _ _ h.op (by show B.used = 0 + B.used; omega)
  obtain ⟨h1, h2, h3, h4, h5, h6⟩ := (okZ_iff p).1 hok
  refine ⟨l, ⟨by rw [l1]; exact h.us, fun j m e => ?_, fun j q1 q2 => ?_⟩, l1, fun i hi => ?_⟩
  · have := l3 j m e
    rw [Nat.zero_add] at this
    rw [hld]
    exact this
  · rw [hld, hld2]
    exact h.free j (by omega) q2
  · rw [l2, noteL_place hi (by omega)]
    rfl
end
end Go.Proofs.YtjbhallhmnahbaaGreat

/-
  The reference of layer 3: its words in memory against the device's state.
-/
namespace Go.Proofs.YtjbhallhmnahbaaGreat
open Go.RowKit

structure RefA where
  rd : Nat
  rw : Nat
  rr : Nat
  rb : Nat
def RefA.all (r : RefA) : List Nat := [r.rd, r.rw, r.rr, r.rb]
structure WordS where
  m : Nat
  t : Bool
  v : Nat
  f : Bool
def wcell (ws : Nat → WordS) (k : Nat) : Value := if k % 4 = 0 then .int .u64 ((ws (k / 4)).m : Int) else if k % 4 = 1 then .bool (ws (k / 4)).t else if k % 4 = 2 then .int .u64 ((ws (k / 4)).v : Int) else .bool (ws (k / 4)).f
theorem wcell0 (ws : Nat → WordS) (i : Nat) : wcell ws (i * 4) = .int .u64 ((ws i).m : Int) := by unfold wcell; rw [if_pos (by omega), show i * 4 / 4 = i by omega]
theorem wcell1 (ws : Nat → WordS) (i : Nat) : wcell ws (i * 4 + 1) = .bool (ws i).t := by unfold wcell; rw [if_neg (by omega), if_pos (by omega), show (i * 4 + 1) / 4 = i by omega]
theorem wcell2 (ws : Nat → WordS) (i : Nat) : wcell ws (i * 4 + 2) = .int .u64 ((ws i).v : Int) := by unfold wcell; rw [if_neg (by omega), if_neg (by omega), if_pos (by omega), show (i * 4 + 2) / 4 = i by omega]
theorem wcell3 (ws : Nat → WordS) (i : Nat) : wcell ws (i * 4 + 3) = .bool (ws i).f := by unfold wcell; rw [if_neg (by omega), if_neg (by omega), if_neg (by omega), show (i * 4 + 3) / 4 = i by omega]
def updW (ws : Nat → WordS) (i : Nat) (x : WordS) : Nat → WordS := fun j => if j = i then x else ws j
theorem wcell_upd (ws : Nat → WordS) (i d : Nat) (x : WordS) (u : Value) (_ : d < 4) (hu : wcell (updW ws i x) (i * 4 + d) = u) (ho : ∀ e, e < 4 → e ≠ d → wcell (updW ws i x) (i * 4 + e) = wcell ws (i * 4 + e)) (k : Nat) : (if k = i * 4 + d then u else wcell ws k) = wcell (updW ws i x) k := by
  by_cases e : k = i * 4 + d
  · rw [if_pos e, e, hu]
  · rw [if_neg e]
    by_cases q : k / 4 = i
    · have hk : k = i * 4 + k % 4 := by omega
      rw [hk]
      exact (ho (k % 4) (by omega) (by omega)).symm
    · unfold wcell updW
      rw [if_neg q]
theorem updW_same (ws : Nat → WordS) (i : Nat) (x : WordS) : updW ws i x i = x := by unfold updW; rw [if_pos rfl]
theorem wcell_m (ws : Nat → WordS) (i m : Nat) (k : Nat) : (if k = i * 4 then Value.int .u64 (m : Int) else wcell ws k) = wcell (updW ws i { ws i with m := m }) k :=
  wcell_upd ws i 0 { ws i with m := m } _ (by omega) (by rw [Nat.add_zero, wcell0, updW_same]) (fun e h1 h2 => by
    rcases (show e = 1 ∨ e = 2 ∨ e = 3 by omega) with rfl | rfl | rfl
    · rw [wcell1, wcell1, updW_same]
    · rw [wcell2, wcell2, updW_same]
    · rw [wcell3, wcell3, updW_same]) k
theorem wcell_t (ws : Nat → WordS) (i : Nat) (t : Bool) (k : Nat) : (if k = i * 4 + 1 then Value.bool t else wcell ws k) = wcell (updW ws i { ws i with t := t }) k :=
  wcell_upd ws i 1 { ws i with t := t } _ (by omega) (by rw [wcell1, updW_same]) (fun e h1 h2 => by
    rcases (show e = 0 ∨ e = 2 ∨ e = 3 by omega) with rfl | rfl | rfl
    · rw [Nat.add_zero, wcell0, wcell0, updW_same]
    · rw [wcell2, wcell2, updW_same]
    · rw [wcell3, wcell3, updW_same]) k
theorem wcell_v (ws : Nat → WordS) (i v : Nat) (k : Nat) : (if k = i * 4 + 2 then Value.int .u64 (v : Int) else wcell ws k) = wcell (updW ws i { ws i with v := v }) k :=
  wcell_upd ws i 2 { ws i with v := v } _ (by omega) (by rw [wcell2, updW_same]) (fun e h1 h2 => by
    rcases (show e = 0 ∨ e = 1 ∨ e = 3 by omega) with rfl | rfl | rfl
    · rw [Nat.add_zero, wcell0, wcell0, updW_same]
    · rw [wcell1, wcell1, updW_same]
    · rw [wcell3, wcell3, updW_same]) k
theorem wcell_f (ws : Nat → WordS) (i : Nat) (f : Bool) (k : Nat) : (if k = i * 4 + 3 then Value.bool f else wcell ws k) = wcell (updW ws i { ws i with f := f }) k :=
  wcell_upd ws i 3 { ws i with f := f } _ (by omega) (by rw [wcell3, updW_same]) (fun e h1 h2 => by
    rcases (show e = 0 ∨ e = 1 ∨ e = 2 by omega) with rfl | rfl | rfl
    · rw [Nat.add_zero, wcell0, wcell0, updW_same]
    · rw [wcell1, wcell1, updW_same]
    · rw [wcell2, wcell2, updW_same]) k

structure RefC where
  n : Nat
  ws : Nat → WordS
  wear : Nat → Int
  bad : Nat → Bool
  fuse : Int
  off : Bool
  cnt : Nat
def headR (r : RefA) (R : RefC) : Array Value :=
  #[.slice (some ⟨r.rw, 0, none⟩) (8 * R.n) (8 * R.n), .slice (some ⟨r.rr, 0, none⟩) R.n R.n, .slice (some ⟨r.rb, 0, none⟩) R.n R.n, .int .i64 R.fuse, .bool R.off, .int .i64 (R.cnt : Int)]
structure RefRow (W : World) (r : RefA) (R : RefC) : Prop where
  head : Holds W r.rd (headR r R) 63
  words : Holds W r.rw (rowOf (wcell R.ws) (4 * (8 * R.n))) 148
  wear : Holds W r.rr (rowOf (fun i => .int .i64 (R.wear i)) R.n) 3
  bad : Holds W r.rb (rowOf (fun i => .bool (R.bad i)) R.n) 4
  nd : r.all.Nodup
  lo : 1 ≤ R.n
  hi : R.n ≤ 8192
section
variable {W W' : World} {r : RefA} {R : RefC}
theorem RefRow.gr {bs : List Nat} (h : RefRow W r R) (g : Gr bs W W') (hn : ∀ b ∈ r.all, b ∉ bs) : RefRow W' r R :=
  ⟨h.head.gr g (hn _ (by simp [RefA.all])), h.words.gr g (hn _ (by simp [RefA.all])), h.wear.gr g (hn _ (by simp [RefA.all])), h.bad.gr g (hn _ (by simp [RefA.all])), h.nd, h.lo, h.hi⟩
theorem RefRow.gr0 (h : RefRow W r R) (g : Gr [] W W') : RefRow W' r R := h.gr g (by simp)
theorem RefRow.lt (h : RefRow W r R) : ∀ b ∈ r.all, b < W.heap.size := by
  intro b hb
  simp only [RefA.all, List.mem_cons, List.not_mem_nil, or_false] at hb
  rcases hb with rfl | rfl | rfl | rfl
  · exact h.head.lt
  · exact h.words.lt
  · exact h.wear.lt
  · exact h.bad.lt
theorem RefRow.ne (h : RefRow W r R) : r.rd ≠ r.rw ∧ r.rd ≠ r.rr ∧ r.rd ≠ r.rb ∧ r.rw ≠ r.rr ∧ r.rw ≠ r.rb ∧ r.rr ≠ r.rb := by
  have := h.nd
  simp [RefA.all] at this
  exact ⟨this.1.1, this.1.2.1, this.1.2.2, this.2.1.1, this.2.1.2, this.2.2⟩
theorem RefRow.c0 (h : RefRow W r R) : W.cell? ⟨r.rd, 0, none⟩ = some (.slice (some ⟨r.rw, 0, none⟩) (8 * R.n) (8 * R.n)) := h.head.cell 0
theorem RefRow.c1 (h : RefRow W r R) : W.cell? ⟨r.rd, 1, none⟩ = some (.slice (some ⟨r.rr, 0, none⟩) R.n R.n) := h.head.cell 1
theorem RefRow.c2 (h : RefRow W r R) : W.cell? ⟨r.rd, 2, none⟩ = some (.slice (some ⟨r.rb, 0, none⟩) R.n R.n) := h.head.cell 2
theorem RefRow.c3 (h : RefRow W r R) : W.cell? ⟨r.rd, 3, none⟩ = some (.int .i64 R.fuse) := h.head.cell 3
theorem RefRow.c4 (h : RefRow W r R) : W.cell? ⟨r.rd, 4, none⟩ = some (.bool R.off) := h.head.cell 4
theorem RefRow.c5 (h : RefRow W r R) : W.cell? ⟨r.rd, 5, none⟩ = some (.int .i64 (R.cnt : Int)) := h.head.cell 5
theorem RefRow.fr (h : RefRow W r R) (i : Nat) : W.frozen? ⟨r.rd, i, none⟩ = false := h.head.frozen i
theorem RefRow.wm (h : RefRow W r R) {i : Nat} (hi : i < 8 * R.n) : W.cell? ⟨r.rw, i * 4, none⟩ = some (.int .u64 ((R.ws i).m : Int)) := by rw [h.words.cell, rowOf_get _ _ _ (by omega), wcell0]
theorem RefRow.wt (h : RefRow W r R) {i : Nat} (hi : i < 8 * R.n) : W.cell? ⟨r.rw, i * 4 + 1, none⟩ = some (.bool (R.ws i).t) := by rw [h.words.cell, rowOf_get _ _ _ (by omega), wcell1]
theorem RefRow.wv (h : RefRow W r R) {i : Nat} (hi : i < 8 * R.n) : W.cell? ⟨r.rw, i * 4 + 2, none⟩ = some (.int .u64 ((R.ws i).v : Int)) := by rw [h.words.cell, rowOf_get _ _ _ (by omega), wcell2]
theorem RefRow.wf (h : RefRow W r R) {i : Nat} (hi : i < 8 * R.n) : W.cell? ⟨r.rw, i * 4 + 3, none⟩ = some (.bool (R.ws i).f) := by rw [h.words.cell, rowOf_get _ _ _ (by omega), wcell3]
theorem RefRow.wz (h : RefRow W r R) (i : Nat) : W.frozen? ⟨r.rw, i, none⟩ = false := h.words.frozen i
theorem RefRow.wearAt (h : RefRow W r R) {i : Nat} (hi : i < R.n) : W.cell? ⟨r.rr, i, none⟩ = some (.int .i64 (R.wear i)) := by rw [h.wear.cell, rowOf_get _ _ _ hi]
theorem RefRow.badAt (h : RefRow W r R) {i : Nat} (hi : i < R.n) : W.cell? ⟨r.rb, i, none⟩ = some (.bool (R.bad i)) := by rw [h.bad.cell, rowOf_get _ _ _ hi]
theorem RefRow.setHead (h : RefRow W r R) {i : Nat} {u : Value} {R' : RefC} (e : (headR r R).setIfInBounds i u = headR r R') (hn : R'.n = R.n) (hw : R'.ws = R.ws) (hr : R'.wear = R.wear) (hb : R'.bad = R.bad) : RefRow (W.setCell ⟨r.rd, i, none⟩ u) r R' := by
  obtain ⟨n1, n2, n3, n4, n5, n6⟩ := h.ne
  have g := grSet W r.rd i u
  have hh := h.head.set i u
  rw [e] at hh
  refine ⟨hh, ?_, ?_, ?_, h.nd, by rw [hn]; exact h.lo, by rw [hn]; exact h.hi⟩
  · rw [hn, hw]; exact h.words.gr g (by simpa using n1.symm)
  · rw [hn, hr]; exact h.wear.gr g (by simpa using n2.symm)
  · rw [hn, hb]; exact h.bad.gr g (by simpa using n3.symm)
theorem RefRow.setFuse (h : RefRow W r R) (x : Int) : RefRow (W.setCell ⟨r.rd, 3, none⟩ (.int .i64 x)) r { R with fuse := x } := h.setHead rfl rfl rfl rfl rfl
theorem RefRow.setOff (h : RefRow W r R) (x : Bool) : RefRow (W.setCell ⟨r.rd, 4, none⟩ (.bool x)) r { R with off := x } := h.setHead rfl rfl rfl rfl rfl
theorem RefRow.setCnt (h : RefRow W r R) (x : Nat) : RefRow (W.setCell ⟨r.rd, 5, none⟩ (.int .i64 (x : Int))) r { R with cnt := x } := h.setHead rfl rfl rfl rfl rfl
theorem RefRow.setWord (h : RefRow W r R) {k : Nat} {u : Value} {ws' : Nat → WordS} (e : ∀ j, (if j = k then u else wcell R.ws j) = wcell ws' j) : RefRow (W.setCell ⟨r.rw, k, none⟩ u) r { R with ws := ws' } := by
  obtain ⟨n1, n2, n3, n4, n5, n6⟩ := h.ne
  have g := grSet W r.rw k u
  refine ⟨h.head.gr g (by simpa using n1), ?_, h.wear.gr g (by simpa using n4.symm), h.bad.gr g (by simpa using n5.symm), h.nd, h.lo, h.hi⟩
  have hh := h.words.set k u
  rw [rowOf_set, rowOf_congr (g' := wcell ws') (fun j _ => e j)] at hh
  exact hh
theorem RefRow.setM (h : RefRow W r R) (i m : Nat) : RefRow (W.setCell ⟨r.rw, i * 4, none⟩ (.int .u64 (m : Int))) r { R with ws := updW R.ws i { R.ws i with m := m } } := h.setWord (wcell_m R.ws i m)
theorem RefRow.setT (h : RefRow W r R) (i : Nat) (t : Bool) : RefRow (W.setCell ⟨r.rw, i * 4 + 1, none⟩ (.bool t)) r { R with ws := updW R.ws i { R.ws i with t := t } } := h.setWord (wcell_t R.ws i t)
theorem RefRow.setV (h : RefRow W r R) (i v : Nat) : RefRow (W.setCell ⟨r.rw, i * 4 + 2, none⟩ (.int .u64 (v : Int))) r { R with ws := updW R.ws i { R.ws i with v := v } } := h.setWord (wcell_v R.ws i v)
theorem RefRow.setF (h : RefRow W r R) (i : Nat) (f : Bool) : RefRow (W.setCell ⟨r.rw, i * 4 + 3, none⟩ (.bool f)) r { R with ws := updW R.ws i { R.ws i with f := f } } := h.setWord (wcell_f R.ws i f)
theorem RefRow.setWear (h : RefRow W r R) (i : Nat) (x : Int) : RefRow (W.setCell ⟨r.rr, i, none⟩ (.int .i64 x)) r { R with wear := fun j => if j = i then x else R.wear j } := by
  obtain ⟨n1, n2, n3, n4, n5, n6⟩ := h.ne
  have g := grSet W r.rr i (.int .i64 x)
  refine ⟨h.head.gr g (by simpa using n2), h.words.gr g (by simpa using n4), ?_, h.bad.gr g (by simpa using n6.symm), h.nd, h.lo, h.hi⟩
  have hh := h.wear.set i (.int .i64 x)
  rw [rowOf_set, rowOf_congr (g' := fun j => .int .i64 (if j = i then x else R.wear j)) (fun j _ => by split <;> rfl)] at hh
  exact hh
theorem RefRow.setBad (h : RefRow W r R) (i : Nat) (x : Bool) : RefRow (W.setCell ⟨r.rb, i, none⟩ (.bool x)) r { R with bad := fun j => if j = i then x else R.bad j } := by
  obtain ⟨n1, n2, n3, n4, n5, n6⟩ := h.ne
  have g := grSet W r.rb i (.bool x)
  refine ⟨h.head.gr g (by simpa using n3), h.words.gr g (by simpa using n5), h.wear.gr g (by simpa using n6), ?_, h.nd, h.lo, h.hi⟩
  have hh := h.bad.set i (.bool x)
  rw [rowOf_set, rowOf_congr (g' := fun j => .bool (if j = i then x else R.bad j)) (fun j _ => by split <;> rfl)] at hh
  exact hh
end

structure Says (D : DevS) (R : RefC) : Prop where
  n : R.n = D.n
  wear : ∀ l, l < D.n → R.wear l = D.wear l
  bad : ∀ l, l < D.n → R.bad l = D.bad l
  fuse : R.fuse = D.fuse
  off : R.off = D.off
  cnt : R.cnt = D.cnt
  med : ∀ i, i < 8 * D.n → (R.ws i).m = D.med i
  buf : ∀ i : Nat, i < 8 * D.n → (D.buf (i : Int) = none ∧ (R.ws i).t = false) ∨ (D.buf (i : Int) = some ((R.ws i).v, (R.ws i).f) ∧ (R.ws i).t = true)
def RefIs (W : World) (r : RefA) (D : DevS) : Prop := ∃ R, RefRow W r R ∧ Says D R
theorem RefIs.gr {W W' : World} {r : RefA} {D : DevS} {bs : List Nat} (h : RefIs W r D) (g : Gr bs W W') (hn : ∀ b ∈ r.all, b ∉ bs) : RefIs W' r D := by
  obtain ⟨R, h1, h2⟩ := h
  exact ⟨R, h1.gr g hn, h2⟩
theorem RefIs.gr0 {W W' : World} {r : RefA} {D : DevS} (h : RefIs W r D) (g : Gr [] W W') : RefIs W' r D := h.gr g (by simp)
theorem RefIs.lt {W : World} {r : RefA} {D : DevS} (h : RefIs W r D) : ∀ b ∈ r.all, b < W.heap.size := by
  obtain ⟨R, h1, h2⟩ := h
  exact h1.lt

end Go.Proofs.YtjbhallhmnahbaaGreat
