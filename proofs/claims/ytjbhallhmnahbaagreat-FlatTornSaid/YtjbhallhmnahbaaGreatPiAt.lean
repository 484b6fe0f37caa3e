/-
  PiAt: SpAd, RgB.
-/
import Derived.Test.YtjbhallhmnahbaaGreatPiAs
import Derived.Test.YtjbhallhmnahbaaGreatPiAo
import Derived.Test.YtjbhallhmnahbaaGreatPiAp

set_option linter.unusedVariables false

/-
  Layer 5: what lasts of a Write and a WriteWord, on a device that may have a fuse.
-/
namespace Go.Proofs.YtjbhallhmnahbaaGreat
open Go.RowKit
set_option linter.unusedVariables false

section
variable {p : PlanZ} {D : DevS} {B : BkS} {s : ByteArray} {i : Int}
theorem openS_rg : ∀ (r k : Nat) (B B' : BkS), openS p D r k B = (0, B') → B.used ≤ k → (∀ x j, B.wh x = some j → j < B.used) → ∀ x j, B'.wh x = some j → j < B'.used
  | 0, k, B, B', h, _, hw => by
    have : B = B' := (Prod.mk.inj h).2
    rw [← this]; exact hw
  | r + 1, k, B, B', h, hu, hw => by
    rw [openS] at h
    by_cases c : (noteS p k (loadV D (8 * p.a.toNat + k)) B).1 ≠ 0
    · rw [if_pos c] at h
      cases h
    · rw [if_neg c] at h
      generalize loadV D (8 * p.a.toNat + k) = v at *
      refine openS_rg r (k + 1) _ B' h ?_ ?_
      · unfold noteS at c ⊢
        split
        · exact Nat.le_succ_of_le hu
        · split
          · exact Nat.le_succ_of_le hu
          · show B.used + 1 ≤ k + 1
            omega
      · unfold noteS at c ⊢
        split
        · exact hw
        · split
          · exact hw
          · rename_i v0 nb
            have hk : k ≤ B.used := by unfold noteBad at nb; omega
            intro x j e
            show j < B.used + 1
            have e2 : (noteB k v B).wh x = some j := e
            unfold noteB at e2
            simp only at e2
            split at e2
            · have := hw x j e2; omega
            · unfold updZ at e2
              split at e2
              · injection e2 with e2; omega
              · have := hw x j e2; omega
theorem TI.ws (h : TI p D B) : ∀ x j, B.wh x = some j → j < B.used := openS_rg _ 0 _ _ h.op (Nat.le_refl _) (fun x j e => by cases e)
theorem TI.place (h : TI p D B) (hok : okZ p = true) (hi : inP p i) : ∃ l : Nat, placeP p B i = (l : Int) ∧ l < D.n ∧ p.a + tabZ p ≤ (l : Int) ∧ (l : Int) < spareP p (B.used : Int) := by
  obtain ⟨h1, h2, h3, h4, h5, h6⟩ := (okZ_iff p).1 hok
  obtain ⟨i0, i9⟩ : 0 ≤ i ∧ i < p.l := hi
  have ht0 : 0 ≤ tabZ p := by unfold tabZ; omega
  have hsz : sizeZ p = tabZ p + p.l + p.s := by unfold sizeZ; rw [if_pos hok]
  have hfit := h.fits
  have hus := h.us
  unfold placeP
  cases e : B.wh i with
  | some k =>
    have := h.ws i k e
    exact ⟨(spareP p k).toNat, by simp only; unfold spareP; omega, by unfold spareP; omega, by unfold spareP; omega, by unfold spareP; omega⟩
  | none => exact ⟨(lineP p i).toNat, by simp only; unfold lineP; omega, by unfold lineP; omega, by unfold lineP; omega, by unfold lineP spareP; omega⟩
/-- What lasts of a write: G says what the line has. -/
structure Kept (p : PlanZ) (i : Int) (l0 : Nat) (D : DevS) (B : BkS) (E : DevS) (B' : BkS) (G : (Nat → Nat) → Prop) : Prop where
  ti : TI p E B'
  n : E.n = D.n
  bad : E.bad = D.bad
  fr : ∀ x, FrX p B.used x → (x < 8 * l0 ∨ 8 * l0 + 8 ≤ x) → E.med x = D.med x
  wh : ∀ j, j ≠ i → B'.wh j = B.wh j
  got : ∃ l : Nat, placeP p B' i = (l : Int) ∧ l < D.n ∧ G (fun k => E.med (8 * l + k))
def IsW (F : Nat → Nat) (G : Nat → Nat) : Prop := ∀ k, k < 8 → G k = F k
def Mix2 (F H : Nat → Nat) (G : Nat → Nat) : Prop := ∀ k, k < 8 → G k = F k ∨ G k = H k
def One2 (F H : Nat → Nat) (G : Nat → Nat) : Prop := IsW F G ∨ IsW H G
theorem One2.mix {F H G : Nat → Nat} (h : One2 F H G) : Mix2 F H G := fun k hk => h.elim (fun q => .inl (q k hk)) (fun q => .inr (q k hk))
theorem Kept.imp {l0 : Nat} {E : DevS} {B' : BkS} {G G' : (Nat → Nat) → Prop} (h : Kept p i l0 D B E B' G) (hG : ∀ F, G F → G' F) : Kept p i l0 D B E B' G' :=
  ⟨h.ti, h.n, h.bad, h.fr, h.wh, by obtain ⟨l, a, b, c⟩ := h.got; exact ⟨l, a, b, hG _ c⟩⟩
/-- The outcomes of a write: done, no spare left, cut. -/
def WrL (p : PlanZ) (i : Int) (l0 : Nat) (s : ByteArray) (D : DevS) (B : BkS) (C : (Nat → Nat) → Prop) (e : Int) (E : DevS) (B' : BkS) : Prop :=
  (e = 0 ∧ Live E ∧ Kept p i l0 D B (bare E) B' (IsW (wdL s.data.toList))) ∨ (e = 10 ∧ Live E ∧ Kept p i l0 D B (bare E) B' (IsW fun k => D.med (8 * l0 + k))) ∨
  (e = 6 ∧ E.off = true ∧ E.n = D.n ∧ E.bad = D.bad ∧ ∀ L kp, IsPend E L → ∃ B'', Kept p i l0 D B (bootD E L kp) B'' C)
theorem Lasts.kept {l0 : Nat} {E2 E : DevS} {B' : BkS} {t : Bool} (h : Lasts p i s B.used E2 B E B' t) (hp : placeP p B i = (l0 : Int)) (hl1 : p.a + tabZ p ≤ (l0 : Int)) (hl2 : (l0 : Int) < spareP p (B.used : Int)) (hln : l0 < D.n)
    (hn : E2.n = D.n) (hb : E2.bad = D.bad) (hm : E2.med = D.med) :
    (t = true → Kept p i l0 D B E B' (IsW (wdL s.data.toList))) ∧ (t = false → Kept p i l0 D B E B' (IsW fun k => D.med (8 * l0 + k))) := by
  refine ⟨fun e => ?_, fun e => ?_⟩
  · obtain ⟨k, l, a1, a2, a3, a4, a5⟩ := h.yes e
    refine ⟨h.ti, h.n.trans hn, h.bad.trans hb, fun x hx _ => by rw [h.fr x hx, hm], fun j hj => by rw [a1]; unfold updZ; rw [if_neg hj], l, ?_, by rw [← hn]; exact a4, fun k hk => a5 k hk⟩
    unfold placeP
    rw [a1]
    unfold updZ
    rw [if_pos rfl]
    exact a3
  · have hw := h.no e
    refine ⟨h.ti, h.n.trans hn, h.bad.trans hb, fun x hx _ => by rw [h.fr x hx, hm], fun j hj => by rw [hw], l0, ?_, hln, fun k hk => ?_⟩
    · rw [← hp]
      unfold placeP
      rw [hw]
    · show E.med _ = _
      rw [h.fr _ (by unfold FrX; omega), hm]
theorem ensure_last {l0 m b : Nat} {f : Nat → Nat} {E2 : DevS} {C : (Nat → Nat) → Prop} (hok : okZ p = true) (hi : inP p i) (hs : s.size = 64) (h : TI p (bare D) B) (hp : placeP p B i = (l0 : Int)) (hl1 : p.a + tabZ p ≤ (l0 : Int)) (hl2 : (l0 : Int) < spareP p (B.used : Int)) (hln : l0 < D.n)
    (hw : Whole D E2 l0 b m f) (hb1 : 8 * l0 ≤ b) (hb2 : b + m ≤ 8 * l0 + 8) (hgood : D.bad l0 = false → ∀ k, k < 8 → E2.med (8 * l0 + k) = wdL s.data.toList k) (hC : ∀ F, One2 (fun k => D.med (8 * l0 + k)) (wdL s.data.toList) F → C F) :
    ∃ e E B', ensureS p i (l0 : Int) s E2 B = (e, E, B') ∧ WrL p i l0 s D B C e E B' := by
  have T2 : TI p (bare E2) B := h.keep (bare_calm E2) (by show E2.n = _; rw [hw.n]; rfl) (fun x hx => by show E2.med x = D.med x; rw [hw.med, if_neg (by omega)]) hok (fun l q1 q2 => by show E2.bad l = _; rw [hw.bad]; exact h.tb l q1 q2)
  unfold ensureS
  cases ht : tookB E2 (l0 : Int) s with
  | true =>
    refine ⟨0, E2, B, rfl, .inl ⟨rfl, hw.live, T2, hw.n, hw.bad, fun x _ hx => ?_, fun _ _ => rfl, l0, hp, hln, fun k hk => took_words ht k hk⟩⟩
    show E2.med x = _
    rw [hw.med, if_neg (by omega)]
  | false =>
    have hbad : D.bad l0 = true := by
      cases hb : D.bad l0 with
      | true => rfl
      | false =>
        have := took_of (l := l0) (D := E2) (s := s) (by rw [hw.n]; exact hln) hs (hgood hb)
        rw [ht] at this
        cases this
    have hm : E2.med = D.med := by
      funext x
      rw [hw.med, if_neg (fun e => by rw [hbad] at e; cases e.2.2)]
    have hus := T2.us
    obtain ⟨e, E, B', q1, q2⟩ := ens_last hok hi hs (p.s - (B.used : Int)).toNat E2 B T2 hw.live (by omega)
    refine ⟨e, E, B', by simpa using q1, ?_⟩
    unfold EnsL at q2
    unfold WrL
    rcases q2 with ⟨p1, p2, p3⟩ | ⟨p1, p2, p3⟩ | ⟨p1, p2, p3, p4, p5⟩
    · exact .inl ⟨p1, p2, (p3.kept hp hl1 hl2 hln hw.n hw.bad hm).1 rfl⟩
    · exact .inr (.inl ⟨p1, p2, (p3.kept hp hl1 hl2 hln hw.n hw.bad hm).2 rfl⟩)
    · refine .inr (.inr ⟨p1, p2, p3.trans hw.n, p4.trans hw.bad, fun L kp hL => ?_⟩)
      obtain ⟨B3, t3, z⟩ := p5 L kp hL
      have zz := z.kept hp hl1 hl2 hln hw.n hw.bad hm
      cases t3 with
      | true => exact ⟨B3, (zz.1 rfl).imp fun F hF => hC F (.inr hF)⟩
      | false => exact ⟨B3, (zz.2 rfl).imp fun F hF => hC F (.inl hF)⟩
theorem write_last (h : TI p (bare D) B) (hd : Live D) (hok : okZ p = true) (hi : inP p i) (hs : s.size = 64) : ∃ (l0 : Nat) (e : Int) (E : DevS) (B' : BkS), placeP p B i = (l0 : Int) ∧ writeS p i s D B = (e, E, B') ∧ WrL p i l0 s D B (Mix2 (fun k => D.med (8 * l0 + k)) (wdL s.data.toList)) e E B' := by
  obtain ⟨l0, hp, hln, hl1, hl2⟩ := h.place hok hi
  have hln2 : l0 < D.n := hln
  refine ⟨l0, ?_⟩
  rcases put_live (l := l0) hd hln2 hs with ⟨E2, e2, s2⟩ | ⟨E, e2, s2⟩
  · obtain ⟨e, E, B', q1, q2⟩ := ensure_last (C := Mix2 (fun k => D.med (8 * l0 + k)) (wdL s.data.toList)) hok hi hs h hp hl1 hl2 hln2 s2 (Nat.le_refl _) (Nat.le_refl _) (fun hb k hk => by
      rw [s2.med, if_pos ⟨by omega, by omega, hb⟩]
      congr 1
      omega) (fun F hF => hF.mix)
    refine ⟨e, E, B', hp, ?_, q2⟩
    unfold writeS
    rw [if_neg (by simp [hs]), if_pos hi, hp, e2]
    show (if (0 : Int) ≠ 0 then _ else _) = _
    rw [if_neg (by simp)]
    exact q1
  · refine ⟨6, E, B, hp, ?_, .inr (.inr ⟨rfl, s2.off, s2.n, s2.bad, fun L kp hL => ⟨B, ?_⟩⟩)⟩
    · unfold writeS
      rw [if_neg (by simp [hs]), if_pos hi, hp, e2]
      rfl
    · have hb := boot_torn kp s2 hL
      have hm : ∀ x, (x < 8 * l0 ∨ 8 * l0 + 8 ≤ x) → (bootD E L kp).med x = D.med x := fun x hx => by
        rcases hb x with e | ⟨j, j1, j2, _⟩
        · exact e
        · omega
      refine ⟨h.keep (boot_calm E L kp) s2.n (fun x hx => hm x (by omega)) hok (fun l q1 q2 => by rw [bootD_bad, s2.bad]; exact h.tb l q1 q2), s2.n, s2.bad, fun x _ hx => hm x hx, fun _ _ => rfl, l0, hp, hln2, fun k hk => ?_⟩
      rcases hb (8 * l0 + k) with e | ⟨j, j1, j2, j3, _⟩
      · exact .inl e
      · right
        show (bootD E L kp).med (8 * l0 + k) = _
        rw [j3]
        congr 1
        omega
theorem lineF_live (hd : Live D) (l : Nat) : lineF D l = fun j => D.med (8 * l + j) := by
  funext j
  unfold lineF loadV
  rw [hd.buf]
theorem wd_textU {F : Nat → Nat} (hF : ∀ j, F j < 18446744073709551616) (k : Nat) (hk : k < 8) : wdL (textU F).data.toList k = F k := by
  have e : (textU F).data.toList = catL [F 0, F 1, F 2, F 3, F 4, F 5, F 6, F 7] := by simp [textU]
  rw [e]
  refine wdL_all _ (fun n hn => ?_) k _ ?_
  · simp only [List.mem_cons, List.not_mem_nil, or_false] at hn
    rcases hn with rfl | rfl | rfl | rfl | rfl | rfl | rfl | rfl <;> exact hF _
  · rcases lt8 hk with rfl | rfl | rfl | rfl | rfl | rfl | rfl | rfl <;> rfl
end
end Go.Proofs.YtjbhallhmnahbaaGreat

/-
  Layer 7: Read, move (where all is done).
-/
namespace Go.Proofs.YtjbhallhmnahbaaGreat
open Go.RowKit
set_option linter.unusedVariables false

section
variable {w w' : World} {kb : Nat} {q : BkA} {a : DevA} {P : PlanR} {B : BkS} {m j c cc : Nat} {D : DevS}
theorem cell_gr7 {W W' : World} {bs : List Nat} {b o : Nat} (g : Gr bs W W') (hb : b < W.heap.size) (hn : b ∉ bs) : W'.cell? ⟨b, o, none⟩ = W.cell? ⟨b, o, none⟩ := World.cell?_of_block (w := W) (g.block b hb hn)
theorem slotJ_in (hP : OkR P) (j i : Nat) (hi : i < P.l) : 0 ≤ slotJ P j i ∧ slotJ P j i ≤ (P.l : Int) := by
  have h := at_right P.l j hP.l1 hP.l2
  unfold slotJ slotI
  have h1 := Int.emod_nonneg ((i : Int) + sAt P.l j) (show (P.l : Int) ≠ 0 by have := hP.l1; omega)
  have h2 := Int.emod_lt_of_pos ((i : Int) + sAt P.l j) (show 0 < (P.l : Int) by have := hP.l1; omega)
  split <;> omega
set_option maxRecDepth 100000 in
set_option maxHeartbeats 8000000 in
theorem rgread_any (i : Nat) (hi : i < P.l) (h : RgIs w kb q a P B m j c) (hd : DevIs w a D) (hn : (bankR P).a + sizeZ (bankR P) ≤ (D.n : Int)) :
    Calls Tryz.prog 65 #[.pointer (some ⟨kb, 0, none⟩), .int .i64 (i : Int)] w fun e w' => e = .returned (.tuple #[.string (readR D (bankR P) B (slotJ P j i)).1, .int .i64 (readR D (bankR P) B (slotJ P j i)).2]) ∧ Gr [] w w' := by
  have HF := Lib.hid (rfind_in i h hi)
  have HS := Lib.hid (fun W (g : Gr [] w W) => rslot_any i (h.gr0 g) hi)
  have HR := Lib.hid (fun W (g : Gr [] w W) => read_any (slotJ P j i) (h.bk.gr0 g) (hd.gr0 g) hn)
  obtain ⟨R, hR⟩ : ∃ R, R = readR D (bankR P) B (slotJ P j i) := ⟨_, rfl⟩
  rw [← hR] at HR ⊢
  have k4 := kp_cell (a := ⟨kb, 4, none⟩) h.c4
  have hne := kp_ne w
  clear h hd hn hi hR
  generalize slotJ P j i = z at *
  go_enter Tryz.func65, Tryz.ntmps65
  go_wp2_with fail
  refine HF.out.mono ?_
  rintro e w' ⟨rfl, rfl⟩
  go_wp2_with fail
  refine wp_region_kp (by kernel_rfl) (by kernel_rfl) ?_
  repeat (go_big_quiet_step ((rename_i x; first
    | exact kp_call x ((HS.out _ (Gr.ofBelow x.h)).mono fun _ _ q => ⟨q.1, q.2.below0⟩)
    | exact kp_call x ((HR.out _ (Gr.ofBelow x.h)).mono fun _ _ q => ⟨q.1, q.2.below0⟩))))
  with_reducible refine wpQuiet_nil ?_
  rintro _ ⟨y, rfl⟩
  have HG := Lib.hid (Gr.ofBelow (cs := []) y.h)
  clear k4 hne
  generalize y.w = w2 at *
  go_wp2_with fail
  exact bodyPost_ret (v := .tuple #[.string R.1, .int .i64 R.2]) (by simp [results, Tryz.results65, go_sem]) rfl ⟨rfl, HG.out⟩
end
/-! ### A move -/
def fromI (P : PlanR) (j : Nat) : Int := if 0 < gAt P.l j then gAt P.l j - 1 else (P.l : Int)
def toI (P : PlanR) (j : Nat) : Int := gAt P.l j
def pkN (P : PlanR) (j : Nat) : Nat := (pkI (sAt P.l j) (gAt P.l j) (j : Int)).toNat
section
variable {w w' : World} {kb : Nat} {q : BkA} {a : DevA} {P : PlanR} {B : BkS} {m j c cc : Nat} {D : DevS}
theorem next_j (hP : OkR P) (hj : j < 4294967295) (W : World) :
    Calls Tryz.prog 188 #[.agg #[.int .i64 (sAt P.l j), .int .i64 (gAt P.l j), .int .u32 (j : Int)], .int .i64 (P.l : Int)] W fun e w' =>
      e = .returned (.tuple #[.agg #[.int .i64 (sAt P.l (j + 1)), .int .i64 (gAt P.l (j + 1)), .int .u32 ((j + 1 : Nat) : Int)], .int .i64 (fromI P j), .int .i64 (toI P j)]) ∧ Gr [] W w' := by
  have hr := at_right P.l j hP.l1 hP.l2
  have em : m1 (j : Int) = ((j + 1 : Nat) : Int) := by unfold m1; omega
  unfold fromI toI
  by_cases hg : 0 < gAt P.l j
  · obtain ⟨e1, e2⟩ := at_pos P.l j hP.l1 hg
    rw [e1, e2, ← em, if_pos hg]
    exact (next_pos _ _ _ _ W hr hg (by omega)).mono fun e w' ⟨he, hb⟩ => ⟨he, Gr.ofBelow hb⟩
  · have h0 : gAt P.l j = 0 := by have := hr.2.2.2.2.1; omega
    obtain ⟨e1, e2⟩ := at_zero P.l j hP.l1 h0
    rw [e1, e2, ← em, if_neg hg, h0]
    rw [h0] at hr
    exact (next_zero _ _ _ W hr (by omega)).mono fun e w' ⟨he, hb⟩ => ⟨he, Gr.ofBelow hb⟩
theorem pkN_val (hP : OkR P) (j : Nat) (hj : j ≤ 4294967295) : ((pkN P j : Nat) : Int) = pkI (sAt P.l j) (gAt P.l j) (j : Int) ∧ pkN P j < 18446744073709551616 := by
  have h := pkI_b (sAt P.l j) (gAt P.l j) (j : Int) (by omega)
  unfold pkN
  omega
theorem readR_size (z : Int) : (readR D (bankR P) B z).1.size ≤ 64 := by
  unfold readR
  split
  · split
    · exact Nat.zero_le _
    · show (⟨(getT D _).toArray⟩ : ByteArray).size ≤ 64
      rw [lineF_text, textU_size]
      exact Nat.le_refl _
  · exact Nat.zero_le _
set_option maxRecDepth 100000 in
set_option maxHeartbeats 8000000 in
/-- A move, where all is done. -/
theorem rmove_ok {D1 D2 : DevS} {B1 B2 : BkS} (h : RgIs w kb q a P B m j c) (hd : DevIs w a D) (hb : Bd D cc) (hcc : cc < 600000) (hm : m < 80000) (hj : j < 4294967295) (hn : (bankR P).a + sizeZ (bankR P) ≤ (D.n : Int)) (hn1 : D1.n = D.n)
    (hR : (readR D (bankR P) B (fromI P j)).2 = 0) (hW : writeS (bankR P) (toI P j) (readR D (bankR P) B (fromI P j)).1 D B = (0, D1, B1)) (hV : writeWordS (bankR P) ((P.l : Int) + 1) 0 (pkN P (j + 1)) D1 B1 = (0, D2, B2)) :
    Calls Tryz.prog 162 #[.pointer (some ⟨kb, 0, none⟩)] w fun e w' => e = .returned (.int .i64 0) ∧ DevIs w' a D2 ∧ Bd D2 (cc + 2800) ∧ RgIs w' kb q a P B2 (m + 128) (j + 1) 0 ∧ Gr (kb :: (q.all ++ a.all)) w w' := by
  obtain ⟨k1, k2⟩ := pkN_val h.ok (j + 1) (by omega)
  have HK := Lib.hid (And.intro k1 k2)
  have HNx := Lib.hid (fun W => next_j (P := P) (j := j) h.ok hj W)
  have HRd := Lib.hid (fun W (q1 : BkIs W q a (bankR P) B m) (q2 : DevIs W a D) => read_any (fromI P j) q1 q2 hn)
  rw [hR] at HRd
  have hts := readR_size (D := D) (P := P) (B := B) (fromI P j)
  obtain ⟨T, hT⟩ : ∃ T, T = (readR D (bankR P) B (fromI P j)).1 := ⟨_, rfl⟩
  rw [← hT] at HRd hW hts
  have HWr := Lib.hid (fun W (q1 : BkIs W q a (bankR P) B m) (q2 : DevIs W a D) => bwrite_any (toI P j) T q1 q2 hb (by omega) (by unfold maxLen; omega) (by omega))
  rw [hW] at HWr
  have HWw := Lib.hid (fun W (q1 : BkIs W q a (bankR P) B1 (m + 64)) (q2 : DevIs W a D1) (q3 : Bd D1 (cc + 1400)) => show Calls Tryz.prog 93 #[.pointer (some ⟨q.b, 0, none⟩), .int .i64 ((P.l : Int) + 1), .int .i64 0, .int .u64 (pkI (sAt P.l (j + 1)) (gAt P.l (j + 1)) ((j + 1 : Nat) : Int))] W _ by
    rw [← HK.out.1]
    exact bww_any ((P.l : Int) + 1) 0 (pkN P (j + 1)) q1 q2 q3 (by omega) HK.out.2 (by rw [hn1]; exact hn) (by omega))
  rw [hV] at HWw
  have HPk := Lib.hid (fun W => pack_bel (sAt P.l (j + 1)) (gAt P.l (j + 1)) ((j + 1 : Nat) : Int) W (by omega))
  have HRg := Lib.hid (fun W => show Calls Tryz.prog 94 #[.agg #[.int .i64 P.a, .int .i64 (P.l : Int), .int .i64 P.s, .int .i64 P.psi]] W _ from reg_any h.ok W)
  have H := Lib.hid h
  have HD := Lib.hid hd
  have c0 := h.c0
  have c1 := h.c1
  have c2 := h.c2
  have c3 := h.c3
  have c4 := h.c4
  have c5 := h.c5
  have c6 := h.c6
  have c7 := h.c7
  obtain ⟨S2, hS2⟩ : ∃ S2 : Int, S2 = sAt P.l (j + 1) := ⟨_, rfl⟩
  obtain ⟨G2, hG2⟩ : ∃ G2 : Int, G2 = gAt P.l (j + 1) := ⟨_, rfl⟩
  obtain ⟨J2, hJ2⟩ : ∃ J2 : Int, J2 = ((j + 1 : Nat) : Int) := ⟨_, rfl⟩
  have HSG := Lib.hid (And.intro hS2 (And.intro hG2 hJ2))
  rw [← hS2, ← hG2, ← hJ2] at HNx HPk HWw
  clear h hd hb hcc hm hj hn hn1 hR hW hV k1 k2 hts hT hS2 hG2 hJ2
  generalize sAt P.l j = sj at *
  generalize gAt P.l j = gj at *
  generalize fromI P j = ff at *
  generalize toI P j = tt at *
  generalize pkI S2 G2 J2 = pk at *
  go_enter Tryz.func162, Tryz.ntmps162
  go_wp2_with fail
  have HKc := Lib.hid (show ∀ W W' : World, (W.cell? ⟨kb, 1, none⟩ = some (.int .i64 (P.l : Int)) ∧ W.cell? ⟨kb, 5, none⟩ = some (.int .i64 sj) ∧ W.cell? ⟨kb, 6, none⟩ = some (.int .i64 gj) ∧ W.cell? ⟨kb, 7, none⟩ = some (.int .u32 (j : Int))) → Gr [] W W' → (W'.cell? ⟨kb, 1, none⟩ = some (.int .i64 (P.l : Int)) ∧ W'.cell? ⟨kb, 5, none⟩ = some (.int .i64 sj) ∧ W'.cell? ⟨kb, 6, none⟩ = some (.int .i64 gj) ∧ W'.cell? ⟨kb, 7, none⟩ = some (.int .u32 (j : Int))) from fun W W' q g =>
    ⟨(g.cell0 (World.block_lt_of_cell? _ _ q.1)).trans q.1, (g.cell0 (World.block_lt_of_cell? _ _ q.2.1)).trans q.2.1, (g.cell0 (World.block_lt_of_cell? _ _ q.2.2.1)).trans q.2.2.1, (g.cell0 (World.block_lt_of_cell? _ _ q.2.2.2)).trans q.2.2.2⟩)
  have HKs := Lib.hid (show ∀ (W : World) (nb : Nat) (u0 u1 u2 : Value), nb ≠ kb → (W.cell? ⟨kb, 1, none⟩ = some (.int .i64 (P.l : Int)) ∧ W.cell? ⟨kb, 5, none⟩ = some (.int .i64 sj) ∧ W.cell? ⟨kb, 6, none⟩ = some (.int .i64 gj) ∧ W.cell? ⟨kb, 7, none⟩ = some (.int .u32 (j : Int))) → ((((W.setCell ⟨nb, 0, none⟩ u0).setCell ⟨nb, 1, none⟩ u1).setCell ⟨nb, 2, none⟩ u2).cell? ⟨kb, 1, none⟩ = some (.int .i64 (P.l : Int)) ∧ (((W.setCell ⟨nb, 0, none⟩ u0).setCell ⟨nb, 1, none⟩ u1).setCell ⟨nb, 2, none⟩ u2).cell? ⟨kb, 5, none⟩ = some (.int .i64 sj) ∧ (((W.setCell ⟨nb, 0, none⟩ u0).setCell ⟨nb, 1, none⟩ u1).setCell ⟨nb, 2, none⟩ u2).cell? ⟨kb, 6, none⟩ = some (.int .i64 gj) ∧ (((W.setCell ⟨nb, 0, none⟩ u0).setCell ⟨nb, 1, none⟩ u1).setCell ⟨nb, 2, none⟩ u2).cell? ⟨kb, 7, none⟩ = some (.int .u32 (j : Int))) from fun W nb u0 u1 u2 hne q => by
    have g : Gr [nb] W (((W.setCell ⟨nb, 0, none⟩ u0).setCell ⟨nb, 1, none⟩ u1).setCell ⟨nb, 2, none⟩ u2) := (((Gr.refl [nb] W).setCell (p := ⟨nb, 0, none⟩) (.inl (by simp)) _).setCell (p := ⟨nb, 1, none⟩) (.inl (by simp)) _).setCell (p := ⟨nb, 2, none⟩) (.inl (by simp)) _
    have hn : kb ∉ [nb] := by simp; exact fun e => hne e.symm
    exact ⟨(cell_gr7 g (World.block_lt_of_cell? _ _ q.1) hn).trans q.1, (cell_gr7 g (World.block_lt_of_cell? _ _ q.2.1) hn).trans q.2.1, (cell_gr7 g (World.block_lt_of_cell? _ _ q.2.2.1) hn).trans q.2.2.1, (cell_gr7 g (World.block_lt_of_cell? _ _ q.2.2.2) hn).trans q.2.2.2⟩)
  have HNE := Lib.hid (show w.heap.size ≠ kb from fun e => by have := H.out.head.lt; omega)
  have s0 := And.intro c1 (And.intro c5 (And.intro c6 c7))
  have s4 := HKc.out _ _ s0 (Gr.refl [] w).drew
  have HG0 := Lib.hid ((Gr.refl [] w).drew)
  clear c0 c1 c2 c3 c4 c5 c6 c7
  go_cut [3, 4, 5] (fun b3 v4 v5 wz => v4 = .int .i64 ff ∧ v5 = .int .i64 tt ∧ ∃ nb : Nat, b3 = .pointer (some ⟨nb, 0, none⟩) ∧ Holds wz nb #[.int .i64 S2, .int .i64 G2, .int .u32 J2] 154 ∧ w.heap.size ≤ nb ∧ Gr [] w wz)
  case first =>
    go_region_held3 (fun w' : World => w'.cell? ⟨kb, 1, none⟩ = some (.int .i64 (P.l : Int)) ∧ w'.cell? ⟨kb, 5, none⟩ = some (.int .i64 sj) ∧ w'.cell? ⟨kb, 6, none⟩ = some (.int .i64 gj) ∧ w'.cell? ⟨kb, 7, none⟩ = some (.int .u32 (j : Int))) (first | assumption | exact HKc.out w _ s0 (((Gr.refl [] w).alloc _).drew) | exact HKc.out _ _ (by assumption) ((Gr.refl [] _).alloc _) | exact HKc.out _ _ (by assumption) (((Gr.refl [] _).alloc _).drew) | exact HKs.out _ _ _ _ _ HNE.out (by assumption) | go_keep) ((go_at_call 188; (with_reducible refine Calls.mono (HNx.out _) ?_); rintro e w2 ⟨rfl, g2⟩; first
      | (have s4 := HKc.out _ _ s4 g2; have HG2 := Lib.hid (HG0.out.trans g2); clear g2)
      | (have s4 := HKc.out _ _ (HKc.out w _ s0 (((Gr.refl [] w).alloc _).drew)) g2; have HZ := ((Holds.new w #[.int .i64 0, .int .i64 0, .int .u32 0] 154).gr0 ((Gr.refl [] _).drew)).gr0 g2; have z0 := HZ.cell 0; have z1 := HZ.cell 1; have z2 := HZ.cell 2; have fz0 := HZ.frozen 0; have fz1 := HZ.frozen 1; have fz2 := HZ.frozen 2; have HG2 := Lib.hid (((Gr.refl [] w).alloc (Obj.cells #[.int .i64 0, .int .i64 0, .int .u32 0] 154)).drew.trans g2); have HZH := Lib.hid HZ; clear g2 HZ)))
    all_goals
      go_wp2_with fail
      go_meet
      first
        | exact ⟨rfl, rfl, _, rfl, Holds.new _ _ _, HG2.out.size, HG2.out.trans ((Gr.refl [] _).alloc _)⟩
        | exact ⟨rfl, rfl, _, rfl, ((HZH.out.set 0 (.int .i64 S2)).set 1 (.int .i64 G2)).set 2 (.int .u32 J2), Nat.le_refl _, ((HG2.out.setCell (p := ⟨w.heap.size, 0, none⟩) (.inr (Nat.le_refl _)) _).setCell (p := ⟨w.heap.size, 1, none⟩) (.inr (Nat.le_refl _)) _).setCell (p := ⟨w.heap.size, 2, none⟩) (.inr (Nat.le_refl _)) _⟩
  obtain ⟨rfl, rfl, nb, rfl, hh, hnb, hg⟩ := hcut
  obtain ⟨w3, hw3⟩ : ∃ w3, w3 = wc := ⟨_, rfl⟩
  rw [← hw3] at hh hg ⊢
  clear hw3
  have HN := Lib.hid hh
  have H3 := Lib.hid (And.intro (H.out.gr0 hg) (And.intro (HD.out.gr0 hg) hg))
  have HNB := Lib.hid (show nb ∉ a.all ∧ nb ∉ q.all ∧ nb ≠ kb ∧ w.heap.size ≤ nb from ⟨fun e => by have := HD.out.lt _ e; omega, fun e => by have := H.out.bk.lt _ e; omega, fun e => by have := H.out.head.lt; omega, hnb⟩)
  clear hh hnb hg
  have c4 := H3.out.1.c4
  go_wp2_with fail
  refine (HRd.out _ H3.out.1.bk H3.out.2.1).mono ?_
  rintro e w4 ⟨rfl, g4⟩
  have H4 := Lib.hid (And.intro (H3.out.1.gr0 g4) (And.intro (H3.out.2.1.gr0 g4) (And.intro (H3.out.2.2.trans g4) (HN.out.gr0 g4))))
  have c4 := H4.out.1.c4
  clear g4 H3 HN HRd
  go_wp2_with fail
  refine (HWr.out _ H4.out.1.bk H4.out.2.1).mono ?_
  rintro e w5 ⟨rfl, d5, b5, k5, g5⟩
  have H5 := Lib.hid (And.intro (H4.out.1.bank g5 k5) (And.intro d5 (And.intro b5 (And.intro ((H4.out.2.2.1.of0 (cs := q.all ++ a.all)).trans g5) (H4.out.2.2.2.gr g5 (by simp only [List.mem_append, not_or]; exact ⟨HNB.out.2.1, HNB.out.1⟩))))))
  clear d5 b5 k5 g5 c4 H4 HWr
  have k0 := kp_cell (a := ⟨kb, 0, none⟩) H5.out.1.c0
  have k1 := kp_cell (a := ⟨kb, 1, none⟩) H5.out.1.c1
  have k2 := kp_cell (a := ⟨kb, 2, none⟩) H5.out.1.c2
  have k3 := kp_cell (a := ⟨kb, 3, none⟩) H5.out.1.c3
  have k4 := kp_cell (a := ⟨kb, 4, none⟩) H5.out.1.c4
  have n0 := kp_cell (a := ⟨nb, 0, none⟩) (show w5.cell? ⟨nb, 0, none⟩ = some (.int .i64 S2) from H5.out.2.2.2.2.cell 0)
  have n1 := kp_cell (a := ⟨nb, 1, none⟩) (show w5.cell? ⟨nb, 1, none⟩ = some (.int .i64 G2) from H5.out.2.2.2.2.cell 1)
  have n2 := kp_cell (a := ⟨nb, 2, none⟩) (show w5.cell? ⟨nb, 2, none⟩ = some (.int .u32 J2) from H5.out.2.2.2.2.cell 2)
  have hne := kp_ne w5
  go_wp2_with fail
  refine wp_region_kp_tail 11 (by kernel_rfl) (by kernel_rfl) ?_
  simp only [List.take_succ_cons, List.take_zero, List.drop_succ_cons, List.drop_zero]
  repeat (go_big_quiet_step ((rename_i x; first
    | exact kp_call x ((HRg.out _).mono fun _ _ q => ⟨q.1, q.2.below0⟩)
    | exact kp_call x (HPk.out _))))
  with_reducible refine wpQuiet_nil ?_
  rintro _ ⟨y, rfl⟩
  have gy : Gr [] w5 y.w := Gr.ofBelow (cs := []) y.h
  have H6 := Lib.hid (And.intro (H5.out.1.gr0 gy) (And.intro (H5.out.2.1.gr0 gy) (And.intro H5.out.2.2.1 (And.intro (H5.out.2.2.2.1.next0 gy) (H5.out.2.2.2.2.gr0 gy)))))
  clear k0 k1 k2 k3 k4 n0 n1 n2 hne gy H5 HRg HPk
  generalize y.w = w6 at *
  go_wp2_with fail
  refine (HWw.out _ H6.out.1.bk H6.out.2.1 H6.out.2.2.1).mono ?_
  rintro e w7 ⟨rfl, d7, b7, k7, g7⟩
  have H7 := Lib.hid (And.intro (H6.out.1.bank g7 k7) (And.intro d7 (And.intro b7 (And.intro (H6.out.2.2.2.1.trans g7) (H6.out.2.2.2.2.gr g7 (by simp only [List.mem_append, not_or]; exact ⟨HNB.out.2.1, HNB.out.1⟩))))))
  clear d7 b7 k7 g7 H6 HWw
  have n0 : w7.cell? ⟨nb, 0, none⟩ = some (.int .i64 S2) := H7.out.2.2.2.2.cell 0
  have n1 : w7.cell? ⟨nb, 1, none⟩ = some (.int .i64 G2) := H7.out.2.2.2.2.cell 1
  have n2 : w7.cell? ⟨nb, 2, none⟩ = some (.int .u32 J2) := H7.out.2.2.2.2.cell 2
  have f5 : w7.frozen? ⟨kb, 5, none⟩ = false := H7.out.1.head.frozen 5
  have f6 : w7.frozen? ⟨kb, 6, none⟩ = false := H7.out.1.head.frozen 6
  have f7 : w7.frozen? ⟨kb, 7, none⟩ = false := H7.out.1.head.frozen 7
  have f8 : w7.frozen? ⟨kb, 8, none⟩ = false := H7.out.1.head.frozen 8
  have e5 := H7.out.1.c5
  have e6 := H7.out.1.c6
  have e7 := H7.out.1.c7
  have e8 := H7.out.1.c8
  go_wp2_with fail
  go_ret
  obtain ⟨rfl, rfl, rfl⟩ := HSG.out
  have gs : Gr [kb] w7 ((((w7.setCell ⟨kb, 5, none⟩ (.int .i64 (sAt P.l (j + 1)))).setCell ⟨kb, 6, none⟩ (.int .i64 (gAt P.l (j + 1)))).setCell ⟨kb, 7, none⟩ (.int .u32 ((j + 1 : Nat) : Int))).setCell ⟨kb, 8, none⟩ (.int .i64 0)) := ((((Gr.refl [kb] w7).setCell (p := ⟨kb, 5, none⟩) (.inl (by simp)) _).setCell (p := ⟨kb, 6, none⟩) (.inl (by simp)) _).setCell (p := ⟨kb, 7, none⟩) (.inl (by simp)) _).setCell (p := ⟨kb, 8, none⟩) (.inl (by simp)) _
  have hs := (((H7.out.1.head.set 5 (.int .i64 (sAt P.l (j + 1)))).set 6 (.int .i64 (gAt P.l (j + 1)))).set 7 (.int .u32 ((j + 1 : Nat) : Int))).set 8 (.int .i64 0)
  exact ⟨rfl, H7.out.2.1.gr gs (fun x hx hy => by simp at hy; subst hy; exact H7.out.1.ka hx), H7.out.2.2.1.mono (by omega), ⟨hs, (H7.out.1.bk.moreN _ (by omega)).gr gs (fun x hx hy => by simp at hy; subst hy; exact H7.out.1.kq hx), H7.out.1.ok, H7.out.1.kq, H7.out.1.ka⟩, (H7.out.2.2.2.1.mono (fun b hb => List.mem_cons_of_mem _ hb)).trans (gs.mono (fun b hb => by simp at hb; subst hb; simp))⟩
end
end Go.Proofs.YtjbhallhmnahbaaGreat
