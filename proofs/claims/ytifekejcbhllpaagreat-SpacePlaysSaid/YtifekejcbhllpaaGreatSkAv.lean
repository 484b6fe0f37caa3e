/-
  SkAv: RgS, RgX, FlA, FlD, FlK, FlB.
-/
import Derived.Test.YtifekejcbhllpaaGreatSkAu
import Derived.Test.YtifekejcbhllpaaGreatSkAr
import Derived.Test.YtifekejcbhllpaaGreatSkAs

set_option linter.unusedVariables false

/-
  Layer 7: a region at work, told by what its lines have alone.
-/
namespace Go.Proofs.YtifekejcbhllpaaGreat
open Go.RowKit
set_option linter.unusedVariables false

open Classical in
/-- The line with these words. -/
noncomputable def lnF (F : Nat → Nat → Nat) (i : Nat) : ByteArray :=
  if h : ∃ t : ByteArray, t.size = 64 ∧ ∀ k, k < 8 → wdL t.data.toList k = F i k then Classical.choose h else ⟨#[]⟩
/-- Behind n writes at most, the lines have F. -/
structure RR (P : PlanR) (kb : Nat) (q : BkA) (a : DevA) (F : Nat → Nat → Nat) (n : Nat) (w : World) : Prop where
  ok : OkR P
  st : ∃ (D : DevS) (j c : Nat), GdR P D j ∧ j ≤ n ∧ (∀ i k, i < P.l → k < 8 → wdR P D j i k = F i k) ∧ RgIs w kb q a P B0 (64 + 192 * n) j c ∧ DevIs w a D ∧ Bd D (12000 + 4200 * n)
section
variable {w w' : World} {kb : Nat} {q : BkA} {a : DevA} {P : PlanR} {F : Nat → Nat → Nat} {n : Nat}
theorem RR.lt (h : RR P kb q a F n w) : ∀ x ∈ kb :: (q.all ++ a.all), x < w.heap.size := by
  obtain ⟨D, j, c, h1, h2, h3, h4, h5, h6⟩ := h.st
  intro x hx
  rcases List.mem_cons.1 hx with rfl | hx
  · exact h4.head.lt
  · rcases List.mem_append.1 hx with hx | hx
    · exact h4.bk.lt _ hx
    · exact h5.lt _ hx
end
end Go.Proofs.YtifekejcbhllpaaGreat

/-
  Layer 7, pure: a region ahead of a write that may be cut, and what it reads when it is opened again.
-/
namespace Go.Proofs.YtifekejcbhllpaaGreat
open Go.RowKit
set_option linter.unusedVariables false

section
variable {P : PlanR} {D E : DevS} {B : BkS} {j i0 : Nat} {F F' : Nat → Nat → Nat} {G : (Nat → Nat) → Prop}
theorem cnt_read {p : PlanZ} {z : Int} (h : TI p E B) (hok : okZ p = true) (hm : ∀ x, E.med x < 18446744073709551616) (hi : inP p z) : ∃ T : ByteArray, readR E p B z = (T, 0) ∧ T.size = 64 ∧ ∀ k, k < 8 → wdL T.data.toList k = cntZ p B E z k := by
  obtain ⟨l, pl, _, _, _⟩ := h.place hok hi
  refine ⟨⟨(getT E l).toArray⟩, ?_, line_size E l, fun k hk => ?_⟩
  · unfold readR
    rw [if_pos hi, h.calm.off, pl, Int.toNat_natCast]
    rfl
  · rw [line_words h.calm hm k hk]
    unfold cntZ
    rw [pl, Int.toNat_natCast]
end
end Go.Proofs.YtifekejcbhllpaaGreat

/-
  Layer 9, pure: a region stands while another one, elsewhere on the device, is written.
-/
namespace Go.Proofs.YtifekejcbhllpaaGreat
open Go.RowKit
set_option linter.unusedVariables false

/-- The same bank, if its own table's words are. -/
theorem TI.keep2 {p : PlanZ} {D D' : DevS} {B : BkS} (h : TI p D B) (hc : Calm D') (hn : D'.n = D.n) (hm : ∀ x : Nat, 8 * p.a ≤ (x : Int) → (x : Int) < 8 * (p.a + tabZ p) → D'.med x = D.med x) (hok : okZ p = true) (hb : ∀ l : Nat, p.a ≤ (l : Int) → (l : Int) < p.a + tabZ p → D'.bad l = false) : TI p D' B := by
  obtain ⟨h1, h2, h3, h4, h5, h6⟩ := (okZ_iff p).1 hok
  have ht : 8 * tabZ p ≥ p.s := by unfold tabZ; omega
  have hu := h.us
  refine ⟨hc, by rw [hn]; exact h.fits, h.us, h.rg, fun k h1 h2 => by rw [hm _ (by omega) (by omega)]; exact h.free k h1 h2, ?_, hb⟩
  rw [← openS_congr (D := D) (D' := D')]
  · exact h.op
  · intro j hj
    rw [calm_load h.calm, calm_load hc, hm _ (by omega) (by omega)]
/-- Two banks lie apart. -/
def Apart (p p2 : PlanZ) : Prop := p.a + sizeZ p ≤ p2.a ∨ p2.a + sizeZ p2 ≤ p.a
section
variable {p p2 : PlanZ} {D E : DevS} {B B' B2 : BkS} {i : Int} {l0 : Nat} {G : (Nat → Nat) → Prop}
theorem Kept.outside (h : Kept p i l0 D B E B' G) (hok : okZ p = true) (hB : TI p (bare D) B) (hi : inP p i) (hp : placeP p B i = (l0 : Int)) {x : Nat} (hx : (x : Int) < 8 * p.a ∨ 8 * (p.a + sizeZ p) ≤ (x : Int)) : E.med x = D.med x := by
  obtain ⟨l, pl, _, a1, a2⟩ := hB.place hok hi
  have hu := hB.us
  obtain ⟨h1, h2, h3, h4, h5, h6⟩ := (okZ_iff p).1 hok
  have hs : sizeZ p = tabZ p + p.l + p.s := by unfold sizeZ; rw [if_pos hok]
  have ht : 0 ≤ tabZ p := by unfold tabZ; omega
  have hl : l = l0 := by omega
  subst hl
  unfold spareP at a2
  exact h.fr x (hx.elim .inl fun q => .inr (.inr q)) (by omega)
end
end Go.Proofs.YtifekejcbhllpaaGreat

/-
  Layer 9, pure: all that comes of a region's write: what is outside it, what it has, whether the power lasts or not.
-/
namespace Go.Proofs.YtifekejcbhllpaaGreat
open Go.RowKit
set_option linter.unusedVariables false

/-- Outside a bank. -/
def OutZ (p : PlanZ) (x : Nat) : Prop := (x : Int) < 8 * p.a ∨ 8 * (p.a + sizeZ p) ≤ (x : Int)
/-- Of all outside a bank nothing changes, whatever lasts. -/
structure Near (p : PlanZ) (D E : DevS) : Prop where
  n : E.n = D.n
  bad : E.bad = D.bad
  out : ∀ L kp, IsPend E L → ∀ x, OutZ p x → (bootD E L kp).med x = D.med x
section
variable {p : PlanZ} {D E G D' : DevS} {B B' : BkS} {i e : Int} {l0 : Nat} {s : ByteArray} {C : (Nat → Nat) → Prop}
theorem pend_nil (h : Live E) : IsPend E [] := ⟨.nil, fun x => by simp [h.buf]⟩
theorem Near.live (h : Near p D E) (hl : Live E) {x : Nat} (hx : OutZ p x) : E.med x = D.med x := by
  have := h.out [] (fun _ => false) (pend_nil hl) x hx
  rwa [boot_live _ hl (pend_nil hl)] at this
theorem Near.of_live (hl : Live E) (hn : E.n = D.n) (hb : E.bad = D.bad) (ho : ∀ x, OutZ p x → E.med x = D.med x) : Near p D E := ⟨hn, hb, fun L kp hL x hx => by rw [boot_live kp hl hL]; exact ho x hx⟩
theorem Near.trans (h : Near p D E) (hl : Live E) (k : Near p E G) : Near p D G := ⟨k.n.trans h.n, k.bad.trans h.bad, fun L kp hL x hx => (k.out L kp hL x hx).trans (h.live hl hx)⟩
theorem WrL.near (hok : okZ p = true) (hB : TI p (bare D) B) (hi : inP p i) (hp : placeP p B i = (l0 : Int)) (h : WrL p i l0 s D B C e E B') : Near p D E ∧ (e ≠ 6 → Live E ∧ TI p (bare E) B') ∧ (e = 0 ∨ e = 10 ∨ e = 6) := by
  rcases h with ⟨rfl, a, b⟩ | ⟨rfl, a, b⟩ | ⟨rfl, a, b, c, d⟩
  · exact ⟨.of_live a b.n b.bad fun x hx => b.outside hok hB hi hp hx, fun _ => ⟨a, b.ti⟩, .inl rfl⟩
  · exact ⟨.of_live a b.n b.bad fun x hx => b.outside hok hB hi hp hx, fun _ => ⟨a, b.ti⟩, .inr (.inl rfl)⟩
  · refine ⟨⟨b, c, fun L kp hL x hx => ?_⟩, fun q => absurd rfl q, .inr (.inr rfl)⟩
    obtain ⟨B2, k⟩ := d L kp hL
    exact k.outside hok hB hi hp hx
end
/-- What is said of a written word's line. -/
def GotK (F : Nat → Nat) (k v : Nat) (e : Int) (H : Nat → Nat) : Prop := (e = 0 → IsW (updF F k v) H) ∧ (e = 10 → IsW F H) ∧ One2 F (updF F k v) H
theorem GotK.old {F : Nat → Nat} {k v : Nat} {e : Int} {H : Nat → Nat} (he : e ≠ 0) (h : IsW F H) : GotK F k v e H := ⟨fun q => absurd q he, fun _ => h, .inl h⟩
theorem updF_congr {F F' : Nat → Nat} {k v m : Nat} (h : F m = F' m) : updF F k v m = updF F' k v m := by unfold updF; split <;> simp_all
/-- All that comes of a write of a region. -/
structure RegOut (P : PlanR) (D : DevS) (i0 : Nat) (F : Nat → Nat → Nat) (G : Int → (Nat → Nat) → Prop) (j j2 : Nat) (e : Int) (E : DevS) (B' : BkS) (j' : Nat) : Prop where
  er : e = 0 ∨ e = 10 ∨ e = 6
  near : Near (bankR P) D E
  live : e ≠ 6 → Live E ∧ RgD P (bare E) B' j' i0 F (G e)
  boot : ∀ L kp, IsPend E L → ∃ B'' j'', (j'' = j ∨ j'' = j2) ∧ RgD P (bootD E L kp) B'' j'' i0 F (G e)
  jl : j' = j ∨ j' = j2
section
variable {P : PlanR} {D E : DevS} {B B' : BkS} {j i0 l0 : Nat} {F : Nat → Nat → Nat} {e : Int} {G : Int → (Nat → Nat) → Prop}
/-- A line's write, where no move is due. -/
theorem line_out (hP : OkR P) (hd : Live D) (h : RgC P (bare D) B j F) (hi : i0 < P.l) {S : ByteArray} (hS : S.size = 64) :
    RegOut P D i0 F (GotL (F i0) S) j j (writeS (bankR P) (slotJ P j i0) S D B).1 (writeS (bankR P) (slotJ P j i0) S D B).2.1 (writeS (bankR P) (slotJ P j i0) S D B).2.2 j := by
  have hle := slotN_le (j := j) (i := i0) hP.l1
  obtain ⟨_, le, lb⟩ := line_last hP hd h hi hS
  rw [slotJ_N P j i0 hP.l1] at le lb ⊢
  have hin := inR P (z := ((slotN P.l j i0 : Nat) : Int)) (by omega) (by omega)
  obtain ⟨l0, e, E, B', q1, q2, q3⟩ := write_last h.ti hd hP.ok hin hS
  obtain ⟨n1, n2, n3⟩ := q3.near hP.ok h.ti hin q1
  rw [q2] at le lb ⊢
  simp only at le lb ⊢
  refine ⟨le, n1, fun he => ⟨(n2 he).1, ?_⟩, fun L kp hL => ?_, .inl rfl⟩
  · have hold : ∀ k, k < 8 → D.med (8 * l0 + k) = F i0 k := fun k hk => by
      have := h.wd i0 k hi hk
      unfold cntZ at this
      rw [q1, Int.toNat_natCast] at this
      exact this
    rcases q3 with ⟨rfl, a, b⟩ | ⟨rfl, a, b⟩ | ⟨rfl, _⟩
    · exact (h.line hP hi q1 b).imp fun H hH => ⟨fun _ => hH, fun q => by omega, fun k hk => .inr (hH k hk)⟩
    · exact (h.line hP hi q1 b).imp fun H hH => .old (by omega) fun k hk => (hH k hk).trans (hold k hk)
    · exact absurd rfl he
  · obtain ⟨B'', k1⟩ := lb L kp hL
    exact ⟨B'', j, .inl rfl, k1⟩
/-- A word's write, where no move is due. -/
theorem word_out (hP : OkR P) (hd : Live D) (hm : ∀ k, k < 8 → F i0 k < 18446744073709551616) (h : RgC P (bare D) B j F) (hi : i0 < P.l) {k v : Nat} (hk : k < 8) (hv : v < 18446744073709551616) :
    RegOut P D i0 F (GotK (F i0) k v) j j (writeWordS (bankR P) (slotJ P j i0) (k : Int) v D B).1 (writeWordS (bankR P) (slotJ P j i0) (k : Int) v D B).2.1 (writeWordS (bankR P) (slotJ P j i0) (k : Int) v D B).2.2 j := by
  have hle := slotN_le (j := j) (i := i0) hP.l1
  rw [slotJ_N P j i0 hP.l1]
  have hin := inR P (z := ((slotN P.l j i0 : Nat) : Int)) (by omega) (by omega)
  have hold' : ∀ l : Nat, placeP (bankR P) B ((slotN P.l j i0 : Nat) : Int) = (l : Int) → ∀ k, k < 8 → D.med (8 * l + k) = F i0 k := fun l hl k hk => by
    have := h.wd i0 k hi hk
    unfold cntZ at this
    rw [hl, Int.toNat_natCast] at this
    exact this
  obtain ⟨l0, e, E, B', q1, q2, q3⟩ := ww_last8 h.ti hd (fun l hl k hk => by rw [hold' l hl k hk]; exact hm k hk) hv hP.ok hin hk
  obtain ⟨n1, n2, n3⟩ := q3.near hP.ok h.ti hin q1
  rw [q2]
  simp only
  have hold : ∀ k, k < 8 → D.med (8 * l0 + k) = F i0 k := hold' l0 q1
  have hnew : ∀ m, m < 8 → wdL (textU (updF (fun j => D.med (8 * l0 + j)) k v)).data.toList m = updF (F i0) k v m := fun m hm8 => by
    rw [wd_textU8 (fun j hj => by unfold updF; split; exact hv; (show D.med (8 * l0 + j) < _); rw [hold j hj]; exact hm j hj) m hm8]
    exact updF_congr (hold m hm8)
  refine ⟨n3, n1, fun he => ⟨(n2 he).1, ?_⟩, fun L kp hL => ?_, .inl rfl⟩
  · rcases q3 with ⟨rfl, a, b⟩ | ⟨rfl, a, b⟩ | ⟨rfl, _⟩
    · refine (h.line hP hi q1 b).imp fun H hH => ?_
      have hH2 : IsW (updF (F i0) k v) H := fun m hm8 => (hH m hm8).trans (hnew m hm8)
      exact ⟨fun _ => hH2, fun q => by omega, .inr hH2⟩
    · exact (h.line hP hi q1 b).imp fun H hH => .old (by omega) fun k hk => (hH k hk).trans (hold k hk)
    · exact absurd rfl he
  · rcases q3 with ⟨rfl, a, b⟩ | ⟨rfl, a, b⟩ | ⟨rfl, a, b, c, d⟩
    · refine ⟨B', j, .inl rfl, ?_⟩
      have b2 : Kept (bankR P) ((slotN P.l j i0 : Nat) : Int) l0 D B (bootD E L kp) B' (IsW (wdL (textU (updF (fun j => D.med (8 * l0 + j)) k v)).data.toList)) := by
        have hm2 := boot_live kp a hL
        refine ⟨b.ti.congr hP.ok (boot_calm E L kp) rfl rfl hm2, b.n, b.bad, fun x h1 h2 => by rw [hm2]; exact b.fr x h1 h2, b.wh, ?_⟩
        obtain ⟨l, c1, c2, c3⟩ := b.got
        exact ⟨l, c1, c2, fun m hm8 => by rw [hm2]; exact c3 m hm8⟩
      refine (h.line hP hi q1 b2).imp fun H hH => ?_
      have hH2 : IsW (updF (F i0) k v) H := fun m hm8 => (hH m hm8).trans (hnew m hm8)
      exact ⟨fun _ => hH2, fun q => by omega, .inr hH2⟩
    · refine ⟨B', j, .inl rfl, ?_⟩
      have b2 : Kept (bankR P) ((slotN P.l j i0 : Nat) : Int) l0 D B (bootD E L kp) B' (IsW fun k => D.med (8 * l0 + k)) := by
        have hm2 := boot_live kp a hL
        refine ⟨b.ti.congr hP.ok (boot_calm E L kp) rfl rfl hm2, b.n, b.bad, fun x h1 h2 => by rw [hm2]; exact b.fr x h1 h2, b.wh, ?_⟩
        obtain ⟨l, c1, c2, c3⟩ := b.got
        exact ⟨l, c1, c2, fun m hm8 => by rw [hm2]; exact c3 m hm8⟩
      exact (h.line hP hi q1 b2).imp fun H hH => .old (by omega) fun k hk => (hH k hk).trans (hold k hk)
    · obtain ⟨B'', k1⟩ := d L kp hL
      refine ⟨B'', j, .inl rfl, (h.line hP hi q1 k1).imp fun H hH => ?_⟩
      rcases hH with hH | hH
      · exact .old (by omega) fun k hk => (hH k hk).trans (hold k hk)
      · exact ⟨fun q => by omega, fun q => by omega, .inr fun m hm8 => (hH m hm8).trans (updF_congr (hold m hm8))⟩
/-- A move: what is outside; and the region as it was, where it fails but the power lasts. -/
theorem move_out (hP : OkR P) (hd : Live D) (hm : ∀ x, D.med x < 18446744073709551616) (h : RgC P (bare D) B j F) (hj : j < 4294967295) :
    Near (bankR P) D (movZ P D B j).2.1 ∧ ((movZ P D B j).1 ≠ 0 → (movZ P D B j).1 ≠ 6 → Live (movZ P D B j).2.1 ∧ RgC P (bare (movZ P D B j).2.1) (movZ P D B j).2.2 j F) := by
  have hle3 : toN P.l j ≤ P.l := by unfold toN; omega
  have hle4 : fromN P.l j ≤ P.l := by unfold fromN; split <;> omega
  have hif : inP (bankR P) (fromI P j) := by rw [fromI_N]; exact inR P (by omega) (by omega)
  have hit : inP (bankR P) (toI P j) := by rw [toI_N]; exact inR P (by omega) (by omega)
  have hir : inP (bankR P) ((P.l : Int) + 1) := inR P (by omega) (by omega)
  obtain ⟨lf, pf, _, _, _⟩ := h.ti.place hP.ok hif
  have hread : readR D (bankR P) B (fromI P j) = (⟨(getT D lf).toArray⟩, 0) := by
    unfold readR
    rw [if_pos hif, hd.off, pf, Int.toNat_natCast]
    rfl
  have hT64 := line_size D lf
  have hTw := live_words hd (l := lf) (fun k _ => hm _)
  obtain ⟨T, hT⟩ : ∃ T : ByteArray, T = ⟨(getT D lf).toArray⟩ := ⟨_, rfl⟩
  unfold movZ
  rw [hread]
  rw [← hT] at hT64 hTw ⊢
  simp only
  obtain ⟨l1, e1, D1, B1, p1, w1, x1⟩ := write_last h.ti hd hP.ok hit hT64
  obtain ⟨n1, _, _⟩ := x1.near hP.ok h.ti hit p1
  rw [w1]
  simp only
  rw [toI_N] at p1 x1
  by_cases c1 : e1 = 0
  · rcases x1 with ⟨_, v1, y1⟩ | ⟨z1, _⟩ | ⟨z1, _⟩
    · obtain ⟨r1, r2⟩ := h.to hP p1 y1
      have hTT : ∀ i k, i < P.l → k < 8 → slotN P.l j i = fromN P.l j → cntZ (bankR P) B1 D1 ((toN P.l j : Nat) : Int) k = F i k := fun i k hi hk he => by
        rw [show cntZ (bankR P) B1 D1 ((toN P.l j : Nat) : Int) k = wdL T.data.toList k from r2 k hk, hTw k hk, ← h.wd i k hi hk, he, ← fromI_N]
        unfold cntZ
        rw [pf, Int.toNat_natCast]
        rfl
      have hreg8 : ∀ l : Nat, placeP (bankR P) B1 ((P.l : Int) + 1) = (l : Int) → ∀ k, k < 8 → D1.med (8 * l + k) < 18446744073709551616 := fun l hl k hk => by
        have := (y1.cnt h.ti hP.ok (inR P (by omega) (by omega)) p1).1 ((P.l : Int) + 1) hir (by omega) k hk
        unfold cntZ at this
        rw [hl, Int.toNat_natCast] at this
        rw [show D1.med (8 * l + k) = (bare D1).med (8 * l + k) from rfl, this]
        exact hm _
      obtain ⟨hv1, hv2⟩ := pkN_val hP (j + 1) (by omega)
      obtain ⟨l2, e2, D2, B2, p2, w2, x2⟩ := ww_last8 (k := 0) (v := pkN P (j + 1)) r1.ti v1 hreg8 hv2 hP.ok hir (by omega)
      obtain ⟨n2, _, _⟩ := x2.near hP.ok r1.ti hir p2
      have w2' : writeWordS (bankR P) ((P.l : Int) + 1) 0 (pkN P (j + 1)) D1 B1 = (e2, D2, B2) := w2
      rw [if_pos c1, w2']
      simp only
      have hold : D1.med (8 * l2 + 0) = pkN P j := by
        have := r1.reg
        unfold cntZ at this
        rw [p2, Int.toNat_natCast] at this
        exact this
      refine ⟨n1.trans v1 n2, fun h0 h6 => ?_⟩
      rcases x2 with ⟨a, _⟩ | ⟨_, v2, y2⟩ | ⟨a, _⟩
      · exact absurd a h0
      · obtain ⟨g1, g2, g3⟩ := r1.reg1 hP hTT p2 y2
        exact ⟨v2, g2 ((g1 0 (by omega)).trans hold)⟩
      · exact absurd a h6
    · omega
    · omega
  · rw [if_neg c1]
    simp only
    refine ⟨n1, fun _ h6 => ?_⟩
    rcases x1 with ⟨a, _⟩ | ⟨_, v1, y1⟩ | ⟨a, _⟩
    · exact absurd a c1
    · exact ⟨v1, (h.to hP p1 y1).1⟩
    · exact absurd a h6
/-- A write, a move being due or not. -/
theorem reg_out {f : Int → DevS → BkS → Int × DevS × BkS} (hP : OkR P) (hd : Live D) (hm : ∀ x, D.med x < 18446744073709551616) (h : RgC P (bare D) B j F) (hj : j < 4294967295) (hi : i0 < P.l) (c : Nat)
    (hG : ∀ e H, e ≠ 0 → IsW (F i0) H → G e H)
    (hf : ∀ (D : DevS) (B : BkS) (j : Nat), Live D → RgC P (bare D) B j F → RegOut P D i0 F G j j (f (slotJ P j i0) D B).1 (f (slotJ P j i0) D B).2.1 (f (slotJ P j i0) D B).2.2 j) :
    RegOut P D i0 F G j (j + 1) (regZ P i0 f D B j c).1 (regZ P i0 f D B j c).2.1 (regZ P i0 f D B j c).2.2.1 (regZ P i0 f D B j c).2.2.2.1 := by
  unfold regZ
  by_cases hc : P.psi ≤ (c : Int)
  · rw [if_pos hc]
    obtain ⟨_, _, hn, hM⟩ := move_last hP hd hm h hj
    obtain ⟨m1, m2⟩ := move_out hP hd hm h hj
    rcases hM with ⟨a1, a2, a3⟩ | ⟨a1, a2⟩
    · rw [if_pos a1]
      simp only
      have k := hf _ _ (j + 1) a2 a3
      exact ⟨k.er, m1.trans a2 k.near, k.live, fun L kp hL => by
        obtain ⟨B'', j'', q1, q2⟩ := k.boot L kp hL
        exact ⟨B'', j'', .inr (by omega), q2⟩, .inr rfl⟩
    · rw [if_neg (by omega)]
      simp only
      refine ⟨.inr a1, m1, fun h6 => ?_, fun L kp hL => ?_, .inl rfl⟩
      · obtain ⟨b1, b2⟩ := m2 (by omega) h6
        exact ⟨b1, (b2.toD hi).imp fun H hH => hG _ _ (by omega) hH⟩
      · obtain ⟨B'', j'', k0, k1⟩ := a2 L kp hL
        exact ⟨B'', j'', k0, (k1.toD hi).imp fun H hH => hG _ _ (by omega) hH⟩
  · rw [if_neg hc]
    simp only
    have k := hf D B j hd h
    exact ⟨k.er, k.near, k.live, fun L kp hL => by
      obtain ⟨B'', j'', q1, q2⟩ := k.boot L kp hL
      exact ⟨B'', j'', .inl (by omega), q2⟩, .inl rfl⟩
theorem reg_line (hP : OkR P) (hd : Live D) (hm : ∀ x, D.med x < 18446744073709551616) (h : RgC P (bare D) B j F) (hj : j < 4294967295) (hi : i0 < P.l) {S : ByteArray} (hS : S.size = 64) (c : Nat) :
    RegOut P D i0 F (GotL (F i0) S) j (j + 1) (regZ P i0 (fun z => writeS (bankR P) z S) D B j c).1 (regZ P i0 (fun z => writeS (bankR P) z S) D B j c).2.1 (regZ P i0 (fun z => writeS (bankR P) z S) D B j c).2.2.1 (regZ P i0 (fun z => writeS (bankR P) z S) D B j c).2.2.2.1 :=
  reg_out hP hd hm h hj hi c (fun _ _ he hH => .old he hH) fun D B j hd h => line_out hP hd h hi hS
theorem reg_word (hP : OkR P) (hd : Live D) (hm : ∀ x, D.med x < 18446744073709551616) (h : RgC P (bare D) B j F) (hj : j < 4294967295) (hi : i0 < P.l) {k v : Nat} (hk : k < 8) (hv : v < 18446744073709551616) (hF : ∀ k, k < 8 → F i0 k < 18446744073709551616) (c : Nat) :
    RegOut P D i0 F (GotK (F i0) k v) j (j + 1) (regZ P i0 (fun z => writeWordS (bankR P) z (k : Int) v) D B j c).1 (regZ P i0 (fun z => writeWordS (bankR P) z (k : Int) v) D B j c).2.1 (regZ P i0 (fun z => writeWordS (bankR P) z (k : Int) v) D B j c).2.2.1 (regZ P i0 (fun z => writeWordS (bankR P) z (k : Int) v) D B j c).2.2.2.1 :=
  reg_out hP hd hm h hj hi c (fun _ _ he hH => .old he hH) fun D B j hd h => word_out hP hd hF h hi hk hv
end
end Go.Proofs.YtifekejcbhllpaaGreat

/-
  Layer 9, pure: what lasts of a Format, of a bank, of a region; writes on unbroken lines.
-/
namespace Go.Proofs.YtifekejcbhllpaaGreat
open Go.RowKit
set_option linter.unusedVariables false

section
variable {p : PlanZ} {D E : DevS} {B : BkS}
theorem fmt_last (ha : 0 ≤ p.a) : ∀ (r k : Nat) (D : DevS), Live D → D.bad = (fun _ => false) → p.a + (k : Int) + (r : Int) ≤ (D.n : Int) →
    (∃ E, fmtZ p r k D = (0, E) ∧ Live E ∧ E.n = D.n ∧ E.bad = D.bad ∧ ∀ x : Nat, E.med x = if 8 * (p.a + (k : Int)) ≤ (x : Int) ∧ (x : Int) < 8 * (p.a + (k : Int) + (r : Int)) then 0 else D.med x) ∨
    (∃ E, fmtZ p r k D = (6, E) ∧ E.off = true ∧ E.n = D.n ∧ E.bad = D.bad ∧ ∀ L kp, IsPend E L → ∀ x : Nat, (bootD E L kp).med x = D.med x ∨ ((bootD E L kp).med x = 0 ∧ 8 * (p.a + (k : Int)) ≤ (x : Int) ∧ (x : Int) < 8 * (p.a + (k : Int) + (r : Int))))
  | 0, k, D, hd, hb, hn => .inl ⟨D, rfl, hd, rfl, rfl, fun x => by rw [if_neg (by omega)]⟩
  | r + 1, k, D, hd, hb, hn => by
    obtain ⟨l, hl⟩ : ∃ l : Nat, p.a + (k : Int) = (l : Int) := ⟨(p.a + (k : Int)).toNat, by omega⟩
    rw [fmtZ, hl]
    rcases put_live (l := l) hd (by omega) zeroT_size with ⟨E1, e1, s1⟩ | ⟨E1, e1, s1⟩
    · rw [e1, if_neg (by simp)]
      simp only
      have hm1 : ∀ x, E1.med x = if 8 * l ≤ x ∧ x < 8 * l + 8 then 0 else D.med x := fun x => by
        rw [s1.med]
        by_cases c : 8 * l ≤ x ∧ x < 8 * l + 8
        · rw [if_pos c, if_pos ⟨c.1, c.2, by rw [hb]⟩]
          exact zeroT_word (by omega)
        · rw [if_neg c, if_neg (fun q => c ⟨q.1, q.2.1⟩)]
      rcases fmt_last ha r (k + 1) E1 s1.live (by rw [s1.bad, hb]) (by rw [s1.n]; omega) with ⟨E, q1, q2, q3, q4, q5⟩ | ⟨E, q1, q2, q3, q4, q5⟩
      · refine .inl ⟨E, q1, q2, q3.trans s1.n, q4.trans s1.bad, fun x => ?_⟩
        rw [q5, hm1]
        split
        · rw [if_pos (by omega)]
        · split
          · rw [if_pos (by omega)]
          · rw [if_neg (by omega)]
      · refine .inr ⟨E, q1, q2, q3.trans s1.n, q4.trans s1.bad, fun L kp hL x => ?_⟩
        rcases q5 L kp hL x with c | c
        · rw [c, hm1]
          split
          · exact .inr ⟨rfl, by omega, by omega⟩
          · exact .inl rfl
        · exact .inr ⟨c.1, by omega, by omega⟩
    · rw [e1, if_pos (by simp)]
      refine .inr ⟨E1, rfl, s1.off, s1.n, s1.bad, fun L kp hL x => ?_⟩
      rcases boot_torn kp s1 hL x with c | ⟨j, j1, j2, j3, _⟩
      · exact .inl c
      · refine .inr ⟨?_, by omega, by omega⟩
        rw [j3]
        exact zeroT_word (by omega)
theorem fmt_calm (ha : 0 ≤ p.a) : ∀ (r k : Nat) (D : DevS), Calm D → p.a + (k : Int) + (r : Int) ≤ (D.n : Int) → ∃ E, fmtZ p r k D = (0, E) ∧ Calm E
  | 0, k, D, hd, hn => ⟨D, rfl, hd⟩
  | r + 1, k, D, hd, hn => by
    obtain ⟨l, hl⟩ : ∃ l : Nat, p.a + (k : Int) = (l : Int) := ⟨(p.a + (k : Int)).toNat, by omega⟩
    rw [fmtZ, hl]
    obtain ⟨E1, e1, s1⟩ := put_calm (l := l) hd (by omega) zeroT_size
    rw [e1, if_neg (by simp)]
    exact fmt_calm ha r (k + 1) E1 s1.calm (by rw [s1.n]; omega)
theorem Calm.live (h : Calm D) : Live D := ⟨h.off, h.buf⟩
theorem calm_bare (h : Calm D) : bare D = D := by
  have hb : D.buf = fun _ => none := funext h.buf
  have h1 := h.off
  have h2 := h.fuse
  obtain ⟨a, b, c, d, e, f, g, i⟩ := D
  simp only at hb h1 h2
  subst hb h1 h2
  rfl
/-- A line's write where no line is bad: done, or cut. -/
theorem write_good {i : Int} {s : ByteArray} (h : TI p (bare D) B) (hd : Live D) (hb : D.bad = fun _ => false) (hok : okZ p = true) (hi : inP p i) (hs : s.size = 64) :
    ∃ l0 : Nat, placeP p B i = (l0 : Int) ∧ l0 < D.n ∧ p.a + tabZ p ≤ (l0 : Int) ∧ (l0 : Int) < p.a + sizeZ p ∧ ((∃ E, writeS p i s D B = (0, E, B) ∧ Whole D E l0 (8 * l0) 8 (wdL s.data.toList) ∧ (Calm D → Calm E)) ∨ (∃ E, writeS p i s D B = (6, E, B) ∧ Torn D E (8 * l0) 8 (wdL s.data.toList) ∧ ¬ Calm D)) := by
  obtain ⟨l0, hp, hln, hl1, hl2⟩ := h.place hok hi
  have hln2 : l0 < D.n := hln
  have hus := h.us
  have hsz : sizeZ p = tabZ p + p.l + p.s := by unfold sizeZ; rw [if_pos hok]
  refine ⟨l0, hp, hln2, hl1, by unfold spareP at hl2; omega, ?_⟩
  unfold writeS
  rw [if_neg (by simp [hs]), if_pos hi, hp]
  rcases put_live (l := l0) hd hln2 hs with ⟨E2, e2, s2⟩ | ⟨E, e2, s2⟩
  · left
    rw [e2]
    refine ⟨E2, ?_, s2, fun hc => ?_⟩
    · show (if (0 : Int) ≠ 0 then _ else _ : Int × DevS × BkS) = _
      rw [if_neg (by simp)]
      unfold ensureS
      rw [took_of (by rw [s2.n]; exact hln2) hs (fun k hk => by
        rw [s2.med, if_pos ⟨by omega, by omega, by rw [hb]⟩]
        congr 1
        omega)]
      simp
    · obtain ⟨E3, e3, s3⟩ := put_calm (l := l0) hc hln2 hs
      rw [e2] at e3
      cases e3
      exact s3.calm
  · right
    rw [e2]
    refine ⟨E, by simp, s2, fun hc => ?_⟩
    obtain ⟨E3, e3, s3⟩ := put_calm (l := l0) hc hln2 hs
    rw [e2] at e3
    cases e3
theorem ww_good {i : Int} {k v : Nat} (h : TI p (bare D) B) (hd : Live D) (hb : D.bad = fun _ => false) (hmed : ∀ l : Nat, placeP p B i = (l : Int) → ∀ k, k < 8 → D.med (8 * l + k) < 18446744073709551616) (hv : v < 18446744073709551616) (hok : okZ p = true) (hi : inP p i) (hk : k < 8) :
    ∃ l0 : Nat, placeP p B i = (l0 : Int) ∧ l0 < D.n ∧ p.a + tabZ p ≤ (l0 : Int) ∧ (l0 : Int) < p.a + sizeZ p ∧ ((∃ E, writeWordS p i (k : Int) v D B = (0, E, B) ∧ Whole D E l0 (8 * l0 + k) 1 (fun _ => v) ∧ (Calm D → Calm E)) ∨ (∃ E, writeWordS p i (k : Int) v D B = (6, E, B) ∧ Torn D E (8 * l0 + k) 1 (fun _ => v) ∧ ¬ Calm D)) := by
  obtain ⟨l0, hp, hln, hl1, hl2⟩ := h.place hok hi
  have hln2 : l0 < D.n := hln
  have hus := h.us
  have hsz : sizeZ p = tabZ p + p.l + p.s := by unfold sizeZ; rw [if_pos hok]
  refine ⟨l0, hp, hln2, hl1, by unfold spareP at hl2; omega, ?_⟩
  have hwr : writeWordS p i (k : Int) v D B = if (pwE D (l0 : Int) (k : Int) v).1 ≠ 0 then ((pwE D (l0 : Int) (k : Int) v).1, (pwE D (l0 : Int) (k : Int) v).2, B) else ensureS p i (l0 : Int) (textU (updF (fun j => D.med (8 * l0 + j)) k v)) (pwE D (l0 : Int) (k : Int) v).2 B := by
    unfold writeWordS
    rw [if_neg (by omega), if_pos hi, hd.off, hp, Int.toNat_natCast, Int.toNat_natCast, lineF_live hd]
    simp
  rw [hwr]
  rcases putword_live (l := l0) (k := k) (v := v) hd hln2 hk with ⟨E2, e2, s2⟩ | ⟨E, e2, s2⟩
  · left
    rw [e2]
    refine ⟨E2, ?_, s2, fun hc => ?_⟩
    · show (if (0 : Int) ≠ 0 then _ else _ : Int × DevS × BkS) = _
      rw [if_neg (by simp)]
      unfold ensureS
      rw [took_of (by rw [s2.n]; exact hln2) (textU_size _) (fun j hj => by
        rw [s2.med, wd_textU8 (fun j hj => by
          unfold updF
          split
          · exact hv
          · exact hmed l0 hp j hj) j hj]
        unfold updF
        by_cases c : j = k
        · rw [if_pos c, if_pos ⟨by omega, by omega, by rw [hb]⟩]
        · rw [if_neg c, if_neg (by omega)])]
      simp
    · obtain ⟨E3, e3, s3⟩ := putword_calm (l := l0) (k := k) (v := v) hc hln2 hk
      rw [e2] at e3
      cases e3
      exact s3.calm
  · right
    rw [e2]
    refine ⟨E, by simp, s2, fun hc => ?_⟩
    obtain ⟨E3, e3, s3⟩ := putword_calm (l := l0) (k := k) (v := v) hc hln2 hk
    rw [e2] at e3
    cases e3
/-- A bank whose table is empty. -/
theorem TI.fresh (hok : okZ p = true) (hf : p.a + sizeZ p ≤ (D.n : Int)) (hb : D.bad = fun _ => false) (ht : ∀ k : Nat, (k : Int) < p.s → D.med (8 * p.a.toNat + k) = 0) : TI p (bare D) ⟨0, fun _ => none⟩ :=
  ⟨bare_calm D, hf, ((okZ_iff p).1 hok).2.2.2.2.1, (fun x k e => by cases e), (fun k _ h => ht k h), rfl, (fun l _ _ => by show D.bad l = false; rw [hb])⟩
end
section
variable {P : PlanR} {D : DevS}
/-- What a fresh region has. -/
theorem rfmt_last (hP : OkR P) (hd : Live D) (hb : D.bad = fun _ => false) (hfit : (bankR P).a + sizeZ (bankR P) ≤ (D.n : Int)) :
    ((fmtZ (bankR P) (tabZ (bankR P) + (bankR P).l).toNat 0 D).1 = 0 → (fmtZ (bankR P) (tabZ (bankR P) + (bankR P).l).toNat 0 D).2.off = false ∧ (fmtZ (bankR P) (tabZ (bankR P) + (bankR P).l).toNat 0 D).2.n = D.n ∧ ∀ k : Nat, (k : Int) < P.s → loadV (fmtZ (bankR P) (tabZ (bankR P) + (bankR P).l).toNat 0 D).2 (8 * P.a.toNat + k) = 0) ∧
    ((∃ E, rfmtZ P D = (0, E) ∧ Live E ∧ E.n = D.n ∧ E.bad = D.bad ∧ RgC P (bare E) B0 0 (fun _ _ => 0) ∧ ∀ x, OutZ (bankR P) x → E.med x = D.med x) ∨
     (∃ E, rfmtZ P D = (6, E) ∧ E.off = true ∧ E.n = D.n ∧ E.bad = D.bad ∧ ∀ L kp, IsPend E L → ∀ x, OutZ (bankR P) x → (bootD E L kp).med x = D.med x)) ∧
    (Calm D → (rfmtZ P D).1 = 0 ∧ Calm (rfmtZ P D).2) := by
  obtain ⟨q1, q2, q3, q4, q5, q6⟩ := rg_nums hP
  have hbl : (bankR P).l = (P.l : Int) + 2 := rfl
  have hba : (bankR P).a = P.a := rfl
  have hbs : (bankR P).s = P.s := rfl
  obtain ⟨L, hL⟩ : ∃ L : Nat, L = (tabZ (bankR P) + (bankR P).l).toNat := ⟨_, rfl⟩
  have hR : rfmtZ P D = if (fmtZ (bankR P) L 0 D).1 ≠ 0 then fmtZ (bankR P) L 0 D else ((writeWordS (bankR P) ((P.l : Int) + 1) 0 (pkN P 0) (fmtZ (bankR P) L 0 D).2 ⟨0, fun _ => none⟩).1, (writeWordS (bankR P) ((P.l : Int) + 1) 0 (pkN P 0) (fmtZ (bankR P) L 0 D).2 ⟨0, fun _ => none⟩).2.1) := by rw [hL]; rfl
  rw [← hL]
  have hcalm : Calm D → ∃ E, fmtZ (bankR P) L 0 D = (0, E) ∧ Calm E := fun hc => fmt_calm (by omega) L 0 D hc (by omega)
  have hir : inP (bankR P) ((P.l : Int) + 1) := inR P (by omega) (by omega)
  obtain ⟨_, hv2⟩ := pkN_val hP 0 (by omega)
  rcases fmt_last (p := bankR P) (by omega) L 0 D hd hb (by omega) with ⟨F, f1, f2, f3, f4, f5⟩ | ⟨F, f1, f2, f3, f4, f5⟩
  · have ft : ∀ k : Nat, (k : Int) < P.s → F.med (8 * P.a.toNat + k) = 0 := fun k hk => by
      rw [f5, if_pos (by omega)]
    have T : TI (bankR P) (bare F) B0 := TI.fresh hP.ok (by rw [f3]; exact hfit) (by rw [f4, hb]) ft
    rw [f1] at hR ⊢
    rw [if_neg (by simp)] at hR
    simp only at hR ⊢
    have hmed : ∀ l : Nat, placeP (bankR P) B0 ((P.l : Int) + 1) = (l : Int) → ∀ k, k < 8 → F.med (8 * l + k) = 0 := fun l hl k hk => by
      rw [place0 hP (by omega)] at hl
      have := lnN_val hP (z := (P.l : Int) + 1) (by omega)
      rw [f5, if_pos (by omega)]
    obtain ⟨l2, p2, ln2, la2, lb2, X⟩ := ww_good (k := 0) (v := pkN P 0) T f2 (by rw [f4, hb]) (fun l hl k hk => by rw [hmed l hl k hk]; omega) hv2 hP.ok hir (by omega)
    have hl2 : l2 = lnN P ((P.l : Int) + 1) := by rw [place0 hP (by omega)] at p2; omega
    have hlv := lnN_val hP (z := (P.l : Int) + 1) (by omega)
    refine ⟨fun _ => ⟨f2.off, f3, fun k hk => by unfold loadV; rw [f2.buf]; exact ft k hk⟩, ?_, fun hc => ?_⟩
    · rcases X with ⟨D2, w2, y2, _⟩ | ⟨D2, w2, y2, _⟩
      · have w2' : writeWordS (bankR P) ((P.l : Int) + 1) 0 (pkN P 0) F ⟨0, fun _ => none⟩ = (0, D2, B0) := w2
        rw [w2'] at hR
        simp only at hR
        have hmo : ∀ x, x ≠ 8 * l2 → D2.med x = F.med x := fun x hx => by rw [y2.med, if_neg (by omega)]
        refine .inl ⟨D2, hR, y2.live, y2.n.trans f3, y2.bad.trans f4, ⟨TI.fresh hP.ok (by rw [y2.n, f3]; exact hfit) (by rw [y2.bad, f4, hb]) (fun k hk => by rw [hmo _ (by omega)]; exact ft k hk), ?_, fun i k hi hk => ?_⟩, fun x hx => ?_⟩
        · unfold cntZ
          rw [place0 hP (by omega), Int.toNat_natCast]
          show D2.med _ = _
          rw [y2.med, if_pos ⟨by omega, by omega, by rw [f4, hb]⟩]
        · have hle := slotN_le (j := 0) (i := i) hP.l1
          have hlz := lnN_val hP (z := ((slotN P.l 0 i : Nat) : Int)) (by omega)
          unfold cntZ
          rw [place0 hP (by omega), Int.toNat_natCast]
          show D2.med _ = 0
          rw [hmo _ (by omega), f5, if_pos (by omega)]
        · unfold OutZ at hx
          rw [hmo _ (by omega), f5, if_neg (by omega)]
      · have w2' : writeWordS (bankR P) ((P.l : Int) + 1) 0 (pkN P 0) F ⟨0, fun _ => none⟩ = (6, D2, B0) := w2
        rw [w2'] at hR
        simp only at hR
        refine .inr ⟨D2, hR, y2.off, y2.n.trans f3, y2.bad.trans f4, fun L2 kp hL2 x hx => ?_⟩
        unfold OutZ at hx
        rcases boot_torn kp y2 hL2 x with c | ⟨j, j1, j2, _⟩
        · rw [c, f5, if_neg (by omega)]
        · omega
    · obtain ⟨E, e1, e2⟩ := hcalm hc
      rw [f1] at e1
      cases e1
      rcases X with ⟨D2, w2, y2, c2⟩ | ⟨D2, w2, y2, c2⟩
      · have w2' : writeWordS (bankR P) ((P.l : Int) + 1) 0 (pkN P 0) F ⟨0, fun _ => none⟩ = (0, D2, B0) := w2
        rw [w2'] at hR
        simp only at hR
        rw [hR]
        exact ⟨rfl, c2 e2⟩
      · exact absurd e2 c2
  · rw [f1] at hR ⊢
    rw [if_pos (by simp)] at hR
    refine ⟨fun q => absurd q (by simp), .inr ⟨F, hR, f2, f3, f4, fun L2 kp hL2 x hx => ?_⟩, fun hc => ?_⟩
    · rcases f5 L2 kp hL2 x with c | c
      · exact c
      · unfold OutZ at hx
        omega
    · obtain ⟨E, e1, e2⟩ := hcalm hc
      rw [f1] at e1
      cases e1
end
end Go.Proofs.YtifekejcbhllpaaGreat

/-
  Layer 9, pure: an unbroken region stands while another one is written; regions one behind the other.
-/
namespace Go.Proofs.YtifekejcbhllpaaGreat
open Go.RowKit
set_option linter.unusedVariables false

section
variable {P P2 : PlanR} {D E : DevS} {j j2 : Nat}
/-- Region r of several of the same size, one behind the other from line 1 on. -/
def regP (l : Nat) (s psi : Int) (r : Nat) : PlanR := ⟨1 + (r : Int) * sizeZ ⟨1, (l : Int) + 2, s⟩, l, s, psi⟩
theorem regP_size {l : Nat} {s psi : Int} {r : Nat} (h1 : 1 ≤ l) (h2 : l ≤ 1024) (s0 : 0 ≤ s) (s1 : s ≤ 64) (hf : 1 + (r : Int) * sizeZ ⟨1, (l : Int) + 2, s⟩ ≤ 8192) (p1 : 1 ≤ psi) (p2 : psi ≤ 65535) : OkR (regP l s psi r) ∧ sizeZ (bankR (regP l s psi r)) = sizeZ ⟨1, (l : Int) + 2, s⟩ := by
  have ok1 : okZ ⟨1, (l : Int) + 2, s⟩ = true := (okZ_iff _).2 ⟨by show (0 : Int) ≤ 1; omega, by show (1 : Int) ≤ 8192; omega, by show 1 ≤ (l : Int) + 2; omega, by show (l : Int) + 2 ≤ 1026; omega, s0, s1⟩
  have sz1 : sizeZ ⟨1, (l : Int) + 2, s⟩ = (s + 7) / 8 + ((l : Int) + 2) + s := by unfold sizeZ; rw [if_pos ok1]; rfl
  have hpos : 0 ≤ (r : Int) * sizeZ ⟨1, (l : Int) + 2, s⟩ := Int.mul_nonneg (by omega) (by omega)
  have ok2 : okZ (bankR (regP l s psi r)) = true := (okZ_iff _).2 ⟨by show 0 ≤ 1 + (r : Int) * sizeZ ⟨1, (l : Int) + 2, s⟩; omega, hf, by show 1 ≤ (l : Int) + 2; omega, by show (l : Int) + 2 ≤ 1026; omega, s0, s1⟩
  refine ⟨⟨h1, h2, p1, p2, ok2⟩, ?_⟩
  rw [sz1]
  unfold sizeZ
  rw [if_pos ok2]
  rfl
end
end Go.Proofs.YtifekejcbhllpaaGreat
