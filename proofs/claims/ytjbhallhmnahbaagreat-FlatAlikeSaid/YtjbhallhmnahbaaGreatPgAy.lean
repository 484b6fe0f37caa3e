/-
  PgAy: RgR, RgS, RgX, FlA, FlD.
-/
import Derived.Test.YtjbhallhmnahbaaGreatPgAx
import Derived.Test.YtjbhallhmnahbaaGreatPgAt
import Derived.Test.YtjbhallhmnahbaaGreatPgAu

/-
  Layer 7: a region laid on a new device, and opened.
-/
namespace Go.Proofs.YtjbhallhmnahbaaGreat
open Go.RowKit
set_option linter.unusedVariables false

theorem rg_begin {P : PlanR} (hP : OkR P) (n : Nat) (hfit : (bankR P).a + sizeZ (bankR P) ≤ (n : Int)) :
    ∃ E, GdR P E 0 ∧ E.n = n ∧ (∀ i k, i < P.l → k < 8 → wdR P E 0 i k = 0) ∧
      (∀ (w : World) (a : DevA), DevIs w a (newD n) → Calls Tryz.prog 46 #[.pointer (some ⟨a.bd, 0, none⟩), planRV P] w fun e w' => e = .returned (.int .i64 0) ∧ DevIs w' a E ∧ Bd E 12000 ∧ Gr a.all w w') ∧
      (∀ (w : World) (a : DevA), DevIs w a E → Calls Tryz.prog 57 #[.pointer (some ⟨a.bd, 0, none⟩), planRV P] w fun e w' => ∃ (kb : Nat) (q : BkA), e = .returned (.tuple #[.pointer (some ⟨kb, 0, none⟩), .int .i64 0]) ∧ RgIs w' kb q a P B0 64 0 0 ∧ (∀ x ∈ kb :: q.all, w.heap.size ≤ x) ∧ Gr [] w w') := by
  obtain ⟨q1, q2, q3, q4, q5, q6⟩ := rg_nums hP
  have ha : (bankR P).a = P.a := rfl
  have hbl : (bankR P).l = (P.l : Int) + 2 := rfl
  obtain ⟨L, hL⟩ : ∃ L : Nat, L = (tabZ (bankR P) + (bankR P).l).toNat := ⟨_, rfl⟩
  obtain ⟨z1, n1, b1⟩ := fmt_zero (p := bankR P) (zero_new n) q1 L (by show P.a + (L : Int) ≤ (n : Int); omega)
  obtain ⟨F, hF⟩ : ∃ F, F = fmtD (bankR P) L (newD n) := ⟨_, rfl⟩
  rw [← hF] at z1 n1 b1
  have n2 : F.n = n := n1
  obtain ⟨E, f1, f2, f3, f4⟩ := gd_fresh hP z1 (by rw [b1]; rfl) (by rw [n2]; exact hfit)
  refine ⟨E, f2, f3.trans n2, cont_fresh hP f4, fun w a d => ?_, fun w a d => ?_⟩
  · exact rgformat_ok (P := P) (D1 := E) (B1 := B0) (cc := 0) hP d (zero_new n) rfl ⟨Nat.le_refl _, fun l => ⟨Int.le_refl _, Int.le_refl _⟩⟩ (by omega) (by
      unfold checkZ
      rw [if_pos hP.ok, if_neg (by show ¬ ((n : Int) < _); omega)]) (by rw [← hL, ← hF]; exact f1)
  · exact rgopen_ok (P := P) (j := 0) hP d f2.calm.off (gd_check hP f2) (gd_opens hP f2) (gd_reads hP f2 (by omega) (by omega)) (by rw [line_words f2.calm f2.mb 0 (by omega), Nat.add_zero]; exact f2.reg) (by rw [line_size]; unfold maxLen; omega) (by omega)
end Go.Proofs.YtjbhallhmnahbaaGreat

/-
  Layer 7: a region at work, told by what its lines have alone.
-/
namespace Go.Proofs.YtjbhallhmnahbaaGreat
open Go.RowKit
set_option linter.unusedVariables false

/-- The answer of a line that may not be. -/
def errP (l : Nat) (i : Int) : Int := if i < 0 ∨ (l : Int) ≤ i then 3 else 0
/-- The answer of a word. -/
def errK (l : Nat) (i k : Int) : Int := if k < 0 ∨ 8 ≤ k then 2 else errP l i
/-- What is there behind a line's write. -/
def putF (F : Nat → Nat → Nat) (i : Int) (s : ByteArray) : Nat → Nat → Nat := fun i2 k => if (i2 : Int) = i then wdL s.data.toList k else F i2 k
def wwF (F : Nat → Nat → Nat) (i k : Int) (v : Nat) : Nat → Nat → Nat := fun i2 k2 => if (i2 : Int) = i ∧ (k2 : Int) = k then v else F i2 k2
open Classical in
/-- The line with these words. -/
noncomputable def lnF (F : Nat → Nat → Nat) (i : Nat) : ByteArray :=
  if h : ∃ t : ByteArray, t.size = 64 ∧ ∀ k, k < 8 → wdL t.data.toList k = F i k then Classical.choose h else ⟨#[]⟩
/-- Behind n writes at most, the lines have F. -/
structure RR (P : PlanR) (kb : Nat) (q : BkA) (a : DevA) (F : Nat → Nat → Nat) (n : Nat) (w : World) : Prop where
  ok : OkR P
  st : ∃ (D : DevS) (j c : Nat), GdR P D j ∧ j ≤ n ∧ (∀ i k, i < P.l → k < 8 → wdR P D j i k = F i k) ∧ RgIs w kb q a P B0 (64 + 192 * n) j c ∧ DevIs w a D ∧ Bd D (12000 + 4200 * n)
section
variable {w w' : World} {kb : Nat} {q : BkA} {a : DevA} {P : PlanR} {F : Nat → Nat → Nat} {n : Nat}
theorem RR.gr {bs : List Nat} (h : RR P kb q a F n w) (g : Gr bs w w') (hn : ∀ x ∈ kb :: (q.all ++ a.all), x ∉ bs) : RR P kb q a F n w' := by
  obtain ⟨D, j, c, h1, h2, h3, h4, h5, h6⟩ := h.st
  exact ⟨h.ok, D, j, c, h1, h2, h3, h4.gr g (hn _ (by simp)) (fun b hb => hn b (by simp [hb])), h5.gr g (fun b hb => hn b (by simp [hb])), h6⟩
theorem RR.gr0 (h : RR P kb q a F n w) (g : Gr [] w w') : RR P kb q a F n w' := h.gr g (by simp)
theorem RR.lt (h : RR P kb q a F n w) : ∀ x ∈ kb :: (q.all ++ a.all), x < w.heap.size := by
  obtain ⟨D, j, c, h1, h2, h3, h4, h5, h6⟩ := h.st
  intro x hx
  rcases List.mem_cons.1 hx with rfl | hx
  · exact h4.head.lt
  · rcases List.mem_append.1 hx with hx | hx
    · exact h4.bk.lt _ hx
    · exact h5.lt _ hx
theorem RR.put (h : RR P kb q a F n w) (hn : n < 100) (i : Int) (s : ByteArray) (hs : s.size = 64) :
    Calls Tryz.prog 60 #[.pointer (some ⟨kb, 0, none⟩), .int .i64 i, .string s] w fun e w' => e = .returned (.int .i64 (errP P.l i)) ∧ RR P kb q a (putF F i s) (n + 1) w' ∧ Gr (kb :: (q.all ++ a.all)) w w' := by
  obtain ⟨hP, D, j, c, h1, h2, h3, h4, h5, h6⟩ := h
  by_cases ho : i < 0 ∨ (P.l : Int) ≤ i
  · refine (rgwrite_out i s h4 hs ho).mono ?_
    rintro e w2 ⟨rfl, g⟩
    refine ⟨by unfold errP; rw [if_pos ho], ⟨hP, D, j, c, h1, by omega, fun i2 k hi hk => ?_, (h4.gr0 g).moreN (by omega), h5.gr0 g, h6.mono (by omega)⟩, g.of0⟩
    unfold putF
    rw [if_neg (by omega)]
    exact h3 i2 k hi hk
  · obtain ⟨ii, rfl⟩ : ∃ ii : Nat, i = (ii : Int) := ⟨i.toNat, by omega⟩
    obtain ⟨D3, j3, c3, k1, k2, k3, k4, k5⟩ := rg_put hP h1 ii s hs (by omega) (by omega) c
    refine (k5 kb q a w _ _ h4 h5 h6 (by omega) (by omega)).mono ?_
    rintro e w2 ⟨rfl, d, b, r, g⟩
    refine ⟨by unfold errP; rw [if_neg ho], ⟨hP, D3, j3, c3, k1, by omega, fun i2 k hi hk => ?_, r.moreN (by omega), d, b.mono (by omega)⟩, g⟩
    rw [k4 i2 k hi hk, h3 i2 k hi hk]
    unfold putF
    by_cases e : i2 = ii
    · rw [if_pos e, if_pos (by omega)]
    · rw [if_neg e, if_neg (by omega)]
theorem RR.word (h : RR P kb q a F n w) (hn : n < 100) (i k : Int) (v : Nat) (hv : v < 18446744073709551616) :
    Calls Tryz.prog 64 #[.pointer (some ⟨kb, 0, none⟩), .int .i64 i, .int .i64 k, .int .u64 (v : Int)] w fun e w' => e = .returned (.int .i64 (errK P.l i k)) ∧ RR P kb q a (wwF F i k v) (n + 1) w' ∧ Gr (kb :: (q.all ++ a.all)) w w' := by
  obtain ⟨hP, D, j, c, h1, h2, h3, h4, h5, h6⟩ := h
  by_cases hk : k < 0 ∨ 8 ≤ k
  · refine (rgww_arg i k v hk).mono ?_
    rintro e w2 ⟨rfl, g⟩
    refine ⟨by unfold errK; rw [if_pos hk], ⟨hP, D, j, c, h1, by omega, fun i2 k2 hi hk2 => ?_, (h4.gr0 g).moreN (by omega), h5.gr0 g, h6.mono (by omega)⟩, g.of0⟩
    unfold wwF
    rw [if_neg (by omega)]
    exact h3 i2 k2 hi hk2
  · by_cases ho : i < 0 ∨ (P.l : Int) ≤ i
    · refine (rgww_out i k v h4 (by omega) (by omega) ho).mono ?_
      rintro e w2 ⟨rfl, g⟩
      refine ⟨by unfold errK errP; rw [if_neg hk, if_pos ho], ⟨hP, D, j, c, h1, by omega, fun i2 k2 hi hk2 => ?_, (h4.gr0 g).moreN (by omega), h5.gr0 g, h6.mono (by omega)⟩, g.of0⟩
      unfold wwF
      rw [if_neg (by omega)]
      exact h3 i2 k2 hi hk2
    · obtain ⟨ii, rfl⟩ : ∃ ii : Nat, i = (ii : Int) := ⟨i.toNat, by omega⟩
      obtain ⟨kk, rfl⟩ : ∃ kk : Nat, k = (kk : Int) := ⟨k.toNat, by omega⟩
      obtain ⟨D3, j3, c3, k1, k2, k3, k4, k5⟩ := rg_word hP h1 ii kk v (by omega) (by omega) hv (by omega) c
      refine (k5 kb q a w _ _ h4 h5 h6 (by omega) (by omega)).mono ?_
      rintro e w2 ⟨rfl, d, b, r, g⟩
      refine ⟨by unfold errK errP; rw [if_neg hk, if_neg ho], ⟨hP, D3, j3, c3, k1, by omega, fun i2 k hi hk => ?_, r.moreN (by omega), d, b.mono (by omega)⟩, g⟩
      rw [k4 i2 k hi hk, h3 i2 k hi hk]
      unfold wwF
      by_cases e : i2 = ii ∧ k = kk
      · rw [if_pos e, if_pos (by omega)]
      · rw [if_neg e, if_neg (by omega)]
theorem RR.read (h : RR P kb q a F n w) (i : Nat) (hi : i < P.l) :
    Calls Tryz.prog 65 #[.pointer (some ⟨kb, 0, none⟩), .int .i64 (i : Int)] w fun e w' => e = .returned (.tuple #[.string (lnF F i), .int .i64 0]) ∧ Gr [] w w' := by
  obtain ⟨hP, D, j, c, h1, h2, h3, h4, h5, h6⟩ := h
  have hx : ∃ t : ByteArray, t.size = 64 ∧ ∀ k, k < 8 → wdL t.data.toList k = F i k := ⟨lnB P D j i, lnB_size _ _ _ _, fun k hk => by rw [lnB_word h1 hk, h3 i k hi hk]⟩
  have e : lnF F i = lnB P D j i := by
    unfold lnF
    rw [dif_pos hx]
    obtain ⟨s1, s2⟩ := Classical.choose_spec hx
    exact (lnB_of h1 s1 fun k hk => by rw [s2 k hk, h3 i k hi hk]).symm
  rw [e]
  exact rg_read hP h1 i hi h4 h5
theorem RR.begin (hP : OkR P) (hfit : (bankR P).a + sizeZ (bankR P) ≤ 30) :
    ∃ E : DevS, (∀ (w : World) (a : DevA), DevIs w a (newD 30) → Calls Tryz.prog 46 #[.pointer (some ⟨a.bd, 0, none⟩), planRV P] w fun e w' => e = .returned (.int .i64 0) ∧ (DevIs w' a E ∧ Bd E 12000) ∧ Gr a.all w w') ∧
      (∀ (w : World) (a : DevA), DevIs w a E ∧ Bd E 12000 → Calls Tryz.prog 57 #[.pointer (some ⟨a.bd, 0, none⟩), planRV P] w fun e w' => ∃ (kb : Nat) (q : BkA), e = .returned (.tuple #[.pointer (some ⟨kb, 0, none⟩), .int .i64 0]) ∧ RR P kb q a (fun _ _ => 0) 0 w' ∧ (∀ x ∈ kb :: q.all, w.heap.size ≤ x) ∧ Gr [] w w') := by
  obtain ⟨E, e1, e2, e3, e4, e5⟩ := rg_begin hP 30 hfit
  refine ⟨E, fun w a d => (e4 w a d).mono ?_, fun w a d => (e5 w a d.1).mono ?_⟩
  · rintro e w2 ⟨p1, p2, p3, p4⟩
    exact ⟨p1, ⟨p2, p3⟩, p4⟩
  · rintro e w2 ⟨kb, q, p1, p2, p3, p4⟩
    exact ⟨kb, q, p1, ⟨hP, E, 0, 0, e1, Nat.le_refl _, e3, p2, d.1.gr0 p4, d.2⟩, p3, p4⟩
end
end Go.Proofs.YtjbhallhmnahbaaGreat

/-
  Layer 7, pure: a region ahead of a write that may be cut, and what it reads when it is opened again.
-/
namespace Go.Proofs.YtjbhallhmnahbaaGreat
open Go.RowKit
set_option linter.unusedVariables false

section
variable {P : PlanR} {D E : DevS} {B : BkS} {j i0 : Nat} {F F' : Nat → Nat → Nat} {G : (Nat → Nat) → Prop}
theorem cnt_read {p : PlanZ} {z : Int} (h : TI p E B) (hok : okZ p = true) (hm : ∀ x, E.med x < 18446744073709551616) (hi : inP p z) : ∃ T : ByteArray, readR E p B z = (T, 0) ∧ T.size = 64 ∧ ∀ k, k < 8 → wdL T.data.toList k = cntZ p B E z k := by
  obtain ⟨l, pl, _, _, _⟩ := h.place hok hi
  refine ⟨⟨(getT E l).toArray⟩, ?_, line_size E l, fun k hk => ?_⟩
  · unfold readR
    rw [if_pos hi, h.calm.off, pl, Int.toNat_natCast]
    rfl
  · rw [line_words h.calm hm k hk]
    unfold cntZ
    rw [pl, Int.toNat_natCast]
theorem RgD.check (hP : OkR P) (h : RgD P E B j i0 F G) : checkZ (bankR P) (E.n : Int) = 0 := by
  have := h.ti.fits
  unfold checkZ
  rw [if_pos hP.ok, if_neg (by omega)]
theorem RgD.other (hP : OkR P) (h : RgD P E B j i0 F G) (hm : ∀ x, E.med x < 18446744073709551616) {i : Nat} (hi : i < P.l) (hne : i ≠ i0) {s : ByteArray} (hs : s.size = 64) (hF : ∀ k, k < 8 → F i k = wdL s.data.toList k) : readR E (bankR P) B (slotJ P j i) = (s, 0) := by
  have hle := slotN_le (j := j) (i := i) hP.l1
  rw [slotJ_N P j i hP.l1]
  obtain ⟨T, t1, t2, t3⟩ := cnt_read h.ti hP.ok hm (inR P (z := ((slotN P.l j i : Nat) : Int)) (by omega) (by omega))
  rw [t1, bytes_eq t2 hs fun k hk => by rw [t3 k hk, h.wd i k hi hk hne, hF k hk]]
theorem RR.congr {kb : Nat} {q : BkA} {a : DevA} {n : Nat} {w : World} (h : RR P kb q a F n w) (hF : ∀ i k, i < P.l → k < 8 → F i k = F' i k) : RR P kb q a F' n w := by
  obtain ⟨hP, D, j, c, h1, h2, h3, h4⟩ := h
  exact ⟨hP, D, j, c, h1, h2, fun i k hi hk => (h3 i k hi hk).trans (hF i k hi hk), h4⟩
end
end Go.Proofs.YtjbhallhmnahbaaGreat

/-
  Layer 9, pure: a region stands while another one, elsewhere on the device, is written.
-/
namespace Go.Proofs.YtjbhallhmnahbaaGreat
open Go.RowKit
set_option linter.unusedVariables false

/-- The same bank, if its own table's words are. -/
theorem TI.keep2 {p : PlanZ} {D D' : DevS} {B : BkS} (h : TI p D B) (hc : Calm D') (hn : D'.n = D.n) (hm : ∀ x : Nat, 8 * p.a ≤ (x : Int) → (x : Int) < 8 * (p.a + tabZ p) → D'.med x = D.med x) (hok : okZ p = true) (hb : ∀ l : Nat, p.a ≤ (l : Int) → (l : Int) < p.a + tabZ p → D'.bad l = false) : TI p D' B := by
  obtain ⟨h1, h2, h3, h4, h5, h6⟩ := (okZ_iff p).1 hok
  have ht : 8 * tabZ p ≥ p.s := by unfold tabZ; omega
  have hu := h.us
  refine ⟨hc, by rw [hn]; exact h.fits, h.us, h.rg, fun k h1 h2 => by rw [hm _ (by omega) (by omega)]; exact h.free k h1 h2, ?_, hb⟩
  rw [← openS_congr (D := D) (D' := D')]
  · exact h.op
  · intro j hj
    rw [calm_load h.calm, calm_load hc, hm _ (by omega) (by omega)]
/-- Two banks lie apart. -/
def Apart (p p2 : PlanZ) : Prop := p.a + sizeZ p ≤ p2.a ∨ p2.a + sizeZ p2 ≤ p.a
section
variable {p p2 : PlanZ} {D E : DevS} {B B' B2 : BkS} {i : Int} {l0 : Nat} {G : (Nat → Nat) → Prop}
theorem Kept.outside (h : Kept p i l0 D B E B' G) (hok : okZ p = true) (hB : TI p (bare D) B) (hi : inP p i) (hp : placeP p B i = (l0 : Int)) {x : Nat} (hx : (x : Int) < 8 * p.a ∨ 8 * (p.a + sizeZ p) ≤ (x : Int)) : E.med x = D.med x := by
  obtain ⟨l, pl, _, a1, a2⟩ := hB.place hok hi
  have hu := hB.us
  obtain ⟨h1, h2, h3, h4, h5, h6⟩ := (okZ_iff p).1 hok
  have hs : sizeZ p = tabZ p + p.l + p.s := by unfold sizeZ; rw [if_pos hok]
  have ht : 0 ≤ tabZ p := by unfold tabZ; omega
  have hl : l = l0 := by omega
  subst hl
  unfold spareP at a2
  exact h.fr x (hx.elim .inl fun q => .inr (.inr q)) (by omega)
/-- Another bank stands. -/
theorem TI.apart (h2 : TI p2 (bare D) B2) (hok2 : okZ p2 = true) (ha : Apart p p2) (hok : okZ p = true) (hB : TI p (bare D) B) (hi : inP p i) (hp : placeP p B i = (l0 : Int)) (h : Kept p i l0 D B E B' G) (hc : Calm E) : TI p2 E B2 ∧ ∀ z, inP p2 z → ∀ k, k < 8 → cntZ p2 B2 E z k = cntZ p2 B2 D z k := by
  obtain ⟨q1, q2, q3, q4, q5, q6⟩ := (okZ_iff p2).1 hok2
  have hs2 : sizeZ p2 = tabZ p2 + p2.l + p2.s := by unfold sizeZ; rw [if_pos hok2]
  have ht2 : 0 ≤ tabZ p2 := by unfold tabZ; omega
  have hu2 := h2.us
  unfold Apart at ha
  refine ⟨h2.keep2 hc h.n (fun x x1 x2 => h.outside hok hB hi hp (by omega)) hok2 (fun l l1 l2 => by rw [h.bad]; exact h2.tb l l1 l2), fun z hz k hk => ?_⟩
  obtain ⟨lz, pz, bz, cz, dz⟩ := h2.place hok2 hz
  unfold spareP at dz
  unfold cntZ
  rw [pz, Int.toNat_natCast]
  exact h.outside hok hB hi hp (by omega)
end
end Go.Proofs.YtjbhallhmnahbaaGreat

/-
  Layer 9, pure: all that comes of a region's write: what is outside it, what it has, whether the power lasts or not.
-/
namespace Go.Proofs.YtjbhallhmnahbaaGreat
open Go.RowKit
set_option linter.unusedVariables false

/-- Outside a bank. -/
def OutZ (p : PlanZ) (x : Nat) : Prop := (x : Int) < 8 * p.a ∨ 8 * (p.a + sizeZ p) ≤ (x : Int)
/-- Of all outside a bank nothing changes, whatever lasts. -/
structure Near (p : PlanZ) (D E : DevS) : Prop where
  n : E.n = D.n
  bad : E.bad = D.bad
  out : ∀ L kp, IsPend E L → ∀ x, OutZ p x → (bootD E L kp).med x = D.med x
section
variable {p : PlanZ} {D E G D' : DevS} {B B' : BkS} {i e : Int} {l0 : Nat} {s : ByteArray} {C : (Nat → Nat) → Prop}
theorem pend_nil (h : Live E) : IsPend E [] := ⟨.nil, fun x => by simp [h.buf]⟩
theorem Near.live (h : Near p D E) (hl : Live E) {x : Nat} (hx : OutZ p x) : E.med x = D.med x := by
  have := h.out [] (fun _ => false) (pend_nil hl) x hx
  rwa [boot_live _ hl (pend_nil hl)] at this
theorem Near.of_live (hl : Live E) (hn : E.n = D.n) (hb : E.bad = D.bad) (ho : ∀ x, OutZ p x → E.med x = D.med x) : Near p D E := ⟨hn, hb, fun L kp hL x hx => by rw [boot_live kp hl hL]; exact ho x hx⟩
theorem Near.refl (hl : Live D) : Near p D D := .of_live hl rfl rfl fun _ _ => rfl
theorem Near.trans (h : Near p D E) (hl : Live E) (k : Near p E G) : Near p D G := ⟨k.n.trans h.n, k.bad.trans h.bad, fun L kp hL x hx => (k.out L kp hL x hx).trans (h.live hl hx)⟩
theorem WrL.near (hok : okZ p = true) (hB : TI p (bare D) B) (hi : inP p i) (hp : placeP p B i = (l0 : Int)) (h : WrL p i l0 s D B C e E B') : Near p D E ∧ (e ≠ 6 → Live E ∧ TI p (bare E) B') ∧ (e = 0 ∨ e = 10 ∨ e = 6) := by
  rcases h with ⟨rfl, a, b⟩ | ⟨rfl, a, b⟩ | ⟨rfl, a, b, c, d⟩
  · exact ⟨.of_live a b.n b.bad fun x hx => b.outside hok hB hi hp hx, fun _ => ⟨a, b.ti⟩, .inl rfl⟩
  · exact ⟨.of_live a b.n b.bad fun x hx => b.outside hok hB hi hp hx, fun _ => ⟨a, b.ti⟩, .inr (.inl rfl)⟩
  · refine ⟨⟨b, c, fun L kp hL x hx => ?_⟩, fun q => absurd rfl q, .inr (.inr rfl)⟩
    obtain ⟨B2, k⟩ := d L kp hL
    exact k.outside hok hB hi hp hx
end
/-- What is said of a written word's line. -/
def GotK (F : Nat → Nat) (k v : Nat) (e : Int) (H : Nat → Nat) : Prop := (e = 0 → IsW (updF F k v) H) ∧ (e = 10 → IsW F H) ∧ One2 F (updF F k v) H
theorem GotK.old {F : Nat → Nat} {k v : Nat} {e : Int} {H : Nat → Nat} (he : e ≠ 0) (h : IsW F H) : GotK F k v e H := ⟨fun q => absurd q he, fun _ => h, .inl h⟩
theorem updF_congr {F F' : Nat → Nat} {k v m : Nat} (h : F m = F' m) : updF F k v m = updF F' k v m := by unfold updF; split <;> simp_all
/-- All that comes of a write of a region. -/
structure RegOut (P : PlanR) (D : DevS) (i0 : Nat) (F : Nat → Nat → Nat) (G : Int → (Nat → Nat) → Prop) (j j2 : Nat) (e : Int) (E : DevS) (B' : BkS) (j' : Nat) : Prop where
  er : e = 0 ∨ e = 10 ∨ e = 6
  near : Near (bankR P) D E
  live : e ≠ 6 → Live E ∧ RgD P (bare E) B' j' i0 F (G e)
  boot : ∀ L kp, IsPend E L → ∃ B'' j'', (j'' = j ∨ j'' = j2) ∧ RgD P (bootD E L kp) B'' j'' i0 F (G e)
  jl : j' = j ∨ j' = j2
section
variable {P : PlanR} {D E : DevS} {B B' : BkS} {j i0 l0 : Nat} {F : Nat → Nat → Nat} {e : Int} {G : Int → (Nat → Nat) → Prop}
/-- A line's write, where no move is due. -/
theorem line_out (hP : OkR P) (hd : Live D) (h : RgC P (bare D) B j F) (hi : i0 < P.l) {S : ByteArray} (hS : S.size = 64) :
    RegOut P D i0 F (GotL (F i0) S) j j (writeS (bankR P) (slotJ P j i0) S D B).1 (writeS (bankR P) (slotJ P j i0) S D B).2.1 (writeS (bankR P) (slotJ P j i0) S D B).2.2 j := by
  have hle := slotN_le (j := j) (i := i0) hP.l1
  obtain ⟨_, le, lb⟩ := line_last hP hd h hi hS
  rw [slotJ_N P j i0 hP.l1] at le lb ⊢
  have hin := inR P (z := ((slotN P.l j i0 : Nat) : Int)) (by omega) (by omega)
  obtain ⟨l0, e, E, B', q1, q2, q3⟩ := write_last h.ti hd hP.ok hin hS
  obtain ⟨n1, n2, n3⟩ := q3.near hP.ok h.ti hin q1
  rw [q2] at le lb ⊢
  simp only at le lb ⊢
  refine ⟨le, n1, fun he => ⟨(n2 he).1, ?_⟩, fun L kp hL => ?_, .inl rfl⟩
  · have hold : ∀ k, k < 8 → D.med (8 * l0 + k) = F i0 k := fun k hk => by
      have := h.wd i0 k hi hk
      unfold cntZ at this
      rw [q1, Int.toNat_natCast] at this
      exact this
    rcases q3 with ⟨rfl, a, b⟩ | ⟨rfl, a, b⟩ | ⟨rfl, _⟩
    · exact (h.line hP hi q1 b).imp fun H hH => ⟨fun _ => hH, fun q => by omega, fun k hk => .inr (hH k hk)⟩
    · exact (h.line hP hi q1 b).imp fun H hH => .old (by omega) fun k hk => (hH k hk).trans (hold k hk)
    · exact absurd rfl he
  · obtain ⟨B'', k1⟩ := lb L kp hL
    exact ⟨B'', j, .inl rfl, k1⟩
/-- A word's write, where no move is due. -/
theorem word_out (hP : OkR P) (hd : Live D) (hm : ∀ k, k < 8 → F i0 k < 18446744073709551616) (h : RgC P (bare D) B j F) (hi : i0 < P.l) {k v : Nat} (hk : k < 8) (hv : v < 18446744073709551616) :
    RegOut P D i0 F (GotK (F i0) k v) j j (writeWordS (bankR P) (slotJ P j i0) (k : Int) v D B).1 (writeWordS (bankR P) (slotJ P j i0) (k : Int) v D B).2.1 (writeWordS (bankR P) (slotJ P j i0) (k : Int) v D B).2.2 j := by
  have hle := slotN_le (j := j) (i := i0) hP.l1
  rw [slotJ_N P j i0 hP.l1]
  have hin := inR P (z := ((slotN P.l j i0 : Nat) : Int)) (by omega) (by omega)
  have hold' : ∀ l : Nat, placeP (bankR P) B ((slotN P.l j i0 : Nat) : Int) = (l : Int) → ∀ k, k < 8 → D.med (8 * l + k) = F i0 k := fun l hl k hk => by
    have := h.wd i0 k hi hk
    unfold cntZ at this
    rw [hl, Int.toNat_natCast] at this
    exact this
  obtain ⟨l0, e, E, B', q1, q2, q3⟩ := ww_last8 h.ti hd (fun l hl k hk => by rw [hold' l hl k hk]; exact hm k hk) hv hP.ok hin hk
  obtain ⟨n1, n2, n3⟩ := q3.near hP.ok h.ti hin q1
  rw [q2]
  simp only
  have hold : ∀ k, k < 8 → D.med (8 * l0 + k) = F i0 k := hold' l0 q1
  have hnew : ∀ m, m < 8 → wdL (textU (updF (fun j => D.med (8 * l0 + j)) k v)).data.toList m = updF (F i0) k v m := fun m hm8 => by
    rw [wd_textU8 (fun j hj => by unfold updF; split; exact hv; (show D.med (8 * l0 + j) < _); rw [hold j hj]; exact hm j hj) m hm8]
    exact updF_congr (hold m hm8)
  refine ⟨n3, n1, fun he => ⟨(n2 he).1, ?_⟩, fun L kp hL => ?_, .inl rfl⟩
  · rcases q3 with ⟨rfl, a, b⟩ | ⟨rfl, a, b⟩ | ⟨rfl, _⟩
    · refine (h.line hP hi q1 b).imp fun H hH => ?_
      have hH2 : IsW (updF (F i0) k v) H := fun m hm8 => (hH m hm8).trans (hnew m hm8)
      exact ⟨fun _ => hH2, fun q => by omega, .inr hH2⟩
    · exact (h.line hP hi q1 b).imp fun H hH => .old (by omega) fun k hk => (hH k hk).trans (hold k hk)
    · exact absurd rfl he
  · rcases q3 with ⟨rfl, a, b⟩ | ⟨rfl, a, b⟩ | ⟨rfl, a, b, c, d⟩
    · refine ⟨B', j, .inl rfl, ?_⟩
      have b2 : Kept (bankR P) ((slotN P.l j i0 : Nat) : Int) l0 D B (bootD E L kp) B' (IsW (wdL (textU (updF (fun j => D.med (8 * l0 + j)) k v)).data.toList)) := by
        have hm2 := boot_live kp a hL
        refine ⟨b.ti.congr hP.ok (boot_calm E L kp) rfl rfl hm2, b.n, b.bad, fun x h1 h2 => by rw [hm2]; exact b.fr x h1 h2, b.wh, ?_⟩
        obtain ⟨l, c1, c2, c3⟩ := b.got
        exact ⟨l, c1, c2, fun m hm8 => by rw [hm2]; exact c3 m hm8⟩
      refine (h.line hP hi q1 b2).imp fun H hH => ?_
      have hH2 : IsW (updF (F i0) k v) H := fun m hm8 => (hH m hm8).trans (hnew m hm8)
      exact ⟨fun _ => hH2, fun q => by omega, .inr hH2⟩
    · refine ⟨B', j, .inl rfl, ?_⟩
      have b2 : Kept (bankR P) ((slotN P.l j i0 : Nat) : Int) l0 D B (bootD E L kp) B' (IsW fun k => D.med (8 * l0 + k)) := by
        have hm2 := boot_live kp a hL
        refine ⟨b.ti.congr hP.ok (boot_calm E L kp) rfl rfl hm2, b.n, b.bad, fun x h1 h2 => by rw [hm2]; exact b.fr x h1 h2, b.wh, ?_⟩
        obtain ⟨l, c1, c2, c3⟩ := b.got
        exact ⟨l, c1, c2, fun m hm8 => by rw [hm2]; exact c3 m hm8⟩
      exact (h.line hP hi q1 b2).imp fun H hH => .old (by omega) fun k hk => (hH k hk).trans (hold k hk)
    · obtain ⟨B'', k1⟩ := d L kp hL
      refine ⟨B'', j, .inl rfl, (h.line hP hi q1 k1).imp fun H hH => ?_⟩
      rcases hH with hH | hH
      · exact .old (by omega) fun k hk => (hH k hk).trans (hold k hk)
      · exact ⟨fun q => by omega, fun q => by omega, .inr fun m hm8 => (hH m hm8).trans (updF_congr (hold m hm8))⟩
/-- A move: what is outside; and the region as it was, where it fails but the power lasts. -/
theorem move_out (hP : OkR P) (hd : Live D) (hm : ∀ x, D.med x < 18446744073709551616) (h : RgC P (bare D) B j F) (hj : j < 4294967295) :
    Near (bankR P) D (movZ P D B j).2.1 ∧ ((movZ P D B j).1 ≠ 0 → (movZ P D B j).1 ≠ 6 → Live (movZ P D B j).2.1 ∧ RgC P (bare (movZ P D B j).2.1) (movZ P D B j).2.2 j F) := by
  have hle3 : toN P.l j ≤ P.l := by unfold toN; omega
  have hle4 : fromN P.l j ≤ P.l := by unfold fromN; split <;> omega
  have hif : inP (bankR P) (fromI P j) := by rw [fromI_N]; exact inR P (by omega) (by omega)
  have hit : inP (bankR P) (toI P j) := by rw [toI_N]; exact inR P (by omega) (by omega)
  have hir : inP (bankR P) ((P.l : Int) + 1) := inR P (by omega) (by omega)
  obtain ⟨lf, pf, _, _, _⟩ := h.ti.place hP.ok hif
  have hread : readR D (bankR P) B (fromI P j) = (⟨(getT D lf).toArray⟩, 0) := by
    unfold readR
    rw [if_pos hif, hd.off, pf, Int.toNat_natCast]
    rfl
  have hT64 := line_size D lf
  have hTw := live_words hd (l := lf) (fun k _ => hm _)
  obtain ⟨T, hT⟩ : ∃ T : ByteArray, T = ⟨(getT D lf).toArray⟩ := ⟨_, rfl⟩
  unfold movZ
  rw [hread]
  rw [← hT] at hT64 hTw ⊢
  simp only
  obtain ⟨l1, e1, D1, B1, p1, w1, x1⟩ := write_last h.ti hd hP.ok hit hT64
  obtain ⟨n1, _, _⟩ := x1.near hP.ok h.ti hit p1
  rw [w1]
  simp only
  rw [toI_N] at p1 x1
  by_cases c1 : e1 = 0
  · rcases x1 with ⟨_, v1, y1⟩ | ⟨z1, _⟩ | ⟨z1, _⟩
    · obtain ⟨r1, r2⟩ := h.to hP p1 y1
      have hTT : ∀ i k, i < P.l → k < 8 → slotN P.l j i = fromN P.l j → cntZ (bankR P) B1 D1 ((toN P.l j : Nat) : Int) k = F i k := fun i k hi hk he => by
        rw [show cntZ (bankR P) B1 D1 ((toN P.l j : Nat) : Int) k = wdL T.data.toList k from r2 k hk, hTw k hk, ← h.wd i k hi hk, he, ← fromI_N]
        unfold cntZ
        rw [pf, Int.toNat_natCast]
        rfl
      have hreg8 : ∀ l : Nat, placeP (bankR P) B1 ((P.l : Int) + 1) = (l : Int) → ∀ k, k < 8 → D1.med (8 * l + k) < 18446744073709551616 := fun l hl k hk => by
        have := (y1.cnt h.ti hP.ok (inR P (by omega) (by omega)) p1).1 ((P.l : Int) + 1) hir (by omega) k hk
        unfold cntZ at this
        rw [hl, Int.toNat_natCast] at this
        rw [show D1.med (8 * l + k) = (bare D1).med (8 * l + k) from rfl, this]
        exact hm _
      obtain ⟨hv1, hv2⟩ := pkN_val hP (j + 1) (by omega)
      obtain ⟨l2, e2, D2, B2, p2, w2, x2⟩ := ww_last8 (k := 0) (v := pkN P (j + 1)) r1.ti v1 hreg8 hv2 hP.ok hir (by omega)
      obtain ⟨n2, _, _⟩ := x2.near hP.ok r1.ti hir p2
      have w2' : writeWordS (bankR P) ((P.l : Int) + 1) 0 (pkN P (j + 1)) D1 B1 = (e2, D2, B2) := w2
      rw [if_pos c1, w2']
      simp only
      have hold : D1.med (8 * l2 + 0) = pkN P j := by
        have := r1.reg
        unfold cntZ at this
        rw [p2, Int.toNat_natCast] at this
        exact this
      refine ⟨n1.trans v1 n2, fun h0 h6 => ?_⟩
      rcases x2 with ⟨a, _⟩ | ⟨_, v2, y2⟩ | ⟨a, _⟩
      · exact absurd a h0
      · obtain ⟨g1, g2, g3⟩ := r1.reg1 hP hTT p2 y2
        exact ⟨v2, g2 ((g1 0 (by omega)).trans hold)⟩
      · exact absurd a h6
    · omega
    · omega
  · rw [if_neg c1]
    simp only
    refine ⟨n1, fun _ h6 => ?_⟩
    rcases x1 with ⟨a, _⟩ | ⟨_, v1, y1⟩ | ⟨a, _⟩
    · exact absurd a c1
    · exact ⟨v1, (h.to hP p1 y1).1⟩
    · exact absurd a h6
/-- A write, a move being due or not. -/
theorem reg_out {f : Int → DevS → BkS → Int × DevS × BkS} (hP : OkR P) (hd : Live D) (hm : ∀ x, D.med x < 18446744073709551616) (h : RgC P (bare D) B j F) (hj : j < 4294967295) (hi : i0 < P.l) (c : Nat)
    (hG : ∀ e H, e ≠ 0 → IsW (F i0) H → G e H)
    (hf : ∀ (D : DevS) (B : BkS) (j : Nat), Live D → RgC P (bare D) B j F → RegOut P D i0 F G j j (f (slotJ P j i0) D B).1 (f (slotJ P j i0) D B).2.1 (f (slotJ P j i0) D B).2.2 j) :
    RegOut P D i0 F G j (j + 1) (regZ P i0 f D B j c).1 (regZ P i0 f D B j c).2.1 (regZ P i0 f D B j c).2.2.1 (regZ P i0 f D B j c).2.2.2.1 := by
  unfold regZ
  by_cases hc : P.psi ≤ (c : Int)
  · rw [if_pos hc]
    obtain ⟨_, _, hn, hM⟩ := move_last hP hd hm h hj
    obtain ⟨m1, m2⟩ := move_out hP hd hm h hj
    rcases hM with ⟨a1, a2, a3⟩ | ⟨a1, a2⟩
    · rw [if_pos a1]
      simp only
      have k := hf _ _ (j + 1) a2 a3
      exact ⟨k.er, m1.trans a2 k.near, k.live, fun L kp hL => by
        obtain ⟨B'', j'', q1, q2⟩ := k.boot L kp hL
        exact ⟨B'', j'', .inr (by omega), q2⟩, .inr rfl⟩
    · rw [if_neg (by omega)]
      simp only
      refine ⟨.inr a1, m1, fun h6 => ?_, fun L kp hL => ?_, .inl rfl⟩
      · obtain ⟨b1, b2⟩ := m2 (by omega) h6
        exact ⟨b1, (b2.toD hi).imp fun H hH => hG _ _ (by omega) hH⟩
      · obtain ⟨B'', j'', k0, k1⟩ := a2 L kp hL
        exact ⟨B'', j'', k0, (k1.toD hi).imp fun H hH => hG _ _ (by omega) hH⟩
  · rw [if_neg hc]
    simp only
    have k := hf D B j hd h
    exact ⟨k.er, k.near, k.live, fun L kp hL => by
      obtain ⟨B'', j'', q1, q2⟩ := k.boot L kp hL
      exact ⟨B'', j'', .inl (by omega), q2⟩, .inl rfl⟩
theorem reg_line (hP : OkR P) (hd : Live D) (hm : ∀ x, D.med x < 18446744073709551616) (h : RgC P (bare D) B j F) (hj : j < 4294967295) (hi : i0 < P.l) {S : ByteArray} (hS : S.size = 64) (c : Nat) :
    RegOut P D i0 F (GotL (F i0) S) j (j + 1) (regZ P i0 (fun z => writeS (bankR P) z S) D B j c).1 (regZ P i0 (fun z => writeS (bankR P) z S) D B j c).2.1 (regZ P i0 (fun z => writeS (bankR P) z S) D B j c).2.2.1 (regZ P i0 (fun z => writeS (bankR P) z S) D B j c).2.2.2.1 :=
  reg_out hP hd hm h hj hi c (fun _ _ he hH => .old he hH) fun D B j hd h => line_out hP hd h hi hS
theorem reg_word (hP : OkR P) (hd : Live D) (hm : ∀ x, D.med x < 18446744073709551616) (h : RgC P (bare D) B j F) (hj : j < 4294967295) (hi : i0 < P.l) {k v : Nat} (hk : k < 8) (hv : v < 18446744073709551616) (hF : ∀ k, k < 8 → F i0 k < 18446744073709551616) (c : Nat) :
    RegOut P D i0 F (GotK (F i0) k v) j (j + 1) (regZ P i0 (fun z => writeWordS (bankR P) z (k : Int) v) D B j c).1 (regZ P i0 (fun z => writeWordS (bankR P) z (k : Int) v) D B j c).2.1 (regZ P i0 (fun z => writeWordS (bankR P) z (k : Int) v) D B j c).2.2.1 (regZ P i0 (fun z => writeWordS (bankR P) z (k : Int) v) D B j c).2.2.2.1 :=
  reg_out hP hd hm h hj hi c (fun _ _ he hH => .old he hH) fun D B j hd h => word_out hP hd hF h hi hk hv
end
end Go.Proofs.YtjbhallhmnahbaaGreat
