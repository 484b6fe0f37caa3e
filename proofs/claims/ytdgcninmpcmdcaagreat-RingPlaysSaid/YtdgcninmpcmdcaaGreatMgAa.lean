/-
  MgAa: RgQ, RgR, RgS.
-/
import Derived.Test.YtdgcninmpcmdcaaGreatMgZ
import Derived.Test.YtdgcninmpcmdcaaGreatMgT

/-
  Layer 7: a write of a line, of a word, whatever is due, and what the lines have behind it.
-/
namespace Go.Proofs.YtdgcninmpcmdcaaGreat
open Go.RowKit
set_option linter.unusedVariables false

section
variable {w w' : World} {kb : Nat} {q : BkA} {a : DevA} {P : PlanR} {D : DevS} {j c : Nat}
/-- A whole line. -/
theorem rg_put (hP : OkR P) (G : GdR P D j) (i : Nat) (s : ByteArray) (hs : s.size = 64) (hi : i < P.l) (hj : j < 1000) (c : Nat) :
    ∃ D3 j3 c3, GdR P D3 j3 ∧ j3 ≤ j + 1 ∧ D3.n = D.n ∧ (∀ i2 k, i2 < P.l → k < 8 → wdR P D3 j3 i2 k = if i2 = i then wdL s.data.toList k else wdR P D j i2 k) ∧
      ∀ (kb : Nat) (q : BkA) (a : DevA) (w : World) (m cc : Nat), RgIs w kb q a P B0 m j c → DevIs w a D → Bd D cc → cc < 550000 → m < 70000 →
      Calls Tryz.prog 9 #[.pointer (some ⟨kb, 0, none⟩), .int .i64 (i : Int), .string s] w fun e w' => e = .returned (.int .i64 0) ∧ DevIs w' a D3 ∧ Bd D3 (cc + 4200) ∧ RgIs w' kb q a P B0 (m + 192) j3 c3 ∧ Gr (kb :: (q.all ++ a.all)) w w' := by
  by_cases h : P.psi ≤ (c : Int)
  · obtain ⟨D1, D2, a1, a2, a3, a4, a5, a6, a7, a8⟩ := gd_move hP G (by omega)
    obtain ⟨D3, b1, b2, b3, b4, b5⟩ := gd_line hP a6 (slotJ_in hP (j + 1) i hi).1 (slotJ_in hP (j + 1) i hi).2 hs
    refine ⟨D3, j + 1, 1, b2, by omega, b3.trans a5, fun i2 k h2 hk => ?_, fun kb q a w m cc r d hb hcc hm => rgwrite_mv i s r d hb hcc hm hi hs h (by omega) G.fit a4 a5 a1 a2 a3 b1⟩
    rw [cont_line hP hi b4 b5 i2 k h2 hk, cont_move hP a7 a8 i2 k h2 hk]
  · obtain ⟨D3, b1, b2, b3, b4, b5⟩ := gd_line hP G (slotJ_in hP j i hi).1 (slotJ_in hP j i hi).2 hs
    exact ⟨D3, j, c + 1, b2, by omega, b3, cont_line hP hi b4 b5, fun kb q a w m cc r d hb hcc hm => rgwrite_st i s r d hb hcc hm hi hs (by omega) G.fit b1⟩
/-- A word. -/
theorem rg_word (hP : OkR P) (G : GdR P D j) (i k v : Nat) (hi : i < P.l) (hk : k < 8) (hv : v < 18446744073709551616) (hj : j < 1000) (c : Nat) :
    ∃ D3 j3 c3, GdR P D3 j3 ∧ j3 ≤ j + 1 ∧ D3.n = D.n ∧ (∀ i2 k2, i2 < P.l → k2 < 8 → wdR P D3 j3 i2 k2 = if i2 = i ∧ k2 = k then v else wdR P D j i2 k2) ∧
      ∀ (kb : Nat) (q : BkA) (a : DevA) (w : World) (m cc : Nat), RgIs w kb q a P B0 m j c → DevIs w a D → Bd D cc → cc < 550000 → m < 70000 →
      Calls Tryz.prog 12 #[.pointer (some ⟨kb, 0, none⟩), .int .i64 (i : Int), .int .i64 (k : Int), .int .u64 (v : Int)] w fun e w' => e = .returned (.int .i64 0) ∧ DevIs w' a D3 ∧ Bd D3 (cc + 4200) ∧ RgIs w' kb q a P B0 (m + 192) j3 c3 ∧ Gr (kb :: (q.all ++ a.all)) w w' := by
  by_cases h : P.psi ≤ (c : Int)
  · obtain ⟨D1, D2, a1, a2, a3, a4, a5, a6, a7, a8⟩ := gd_move hP G (by omega)
    obtain ⟨D3, b1, b2, b3, b4, b5⟩ := gd_lword hP a6 (slotJ_in hP (j + 1) i hi).1 (slotJ_in hP (j + 1) i hi).2 hk hv
    refine ⟨D3, j + 1, 1, b2, by omega, b3.trans a5, fun i2 k2 h2 hk2 => ?_, fun kb q a w m cc r d hb hcc hm => rgww_mv i k v r d hb hcc hm hi hk hv h (by omega) G.fit a4 a5 a1 a2 a3 b1⟩
    rw [cont_word hP hi hk b4 b5 i2 k2 h2 hk2, cont_move hP a7 a8 i2 k2 h2 hk2]
  · obtain ⟨D3, b1, b2, b3, b4, b5⟩ := gd_lword hP G (slotJ_in hP j i hi).1 (slotJ_in hP j i hi).2 hk hv
    exact ⟨D3, j, c + 1, b2, by omega, b3, cont_word hP hi hk b4 b5, fun kb q a w m cc r d hb hcc hm => rgww_st i k v r d hb hcc hm hi hk hv (by omega) G.fit b1⟩
/-- What line i reads. -/
def lnB (P : PlanR) (D : DevS) (j i : Nat) : ByteArray := ⟨(getT D (lnN P ((slotN P.l j i : Nat) : Int))).toArray⟩
theorem lnB_size (P : PlanR) (D : DevS) (j i : Nat) : (lnB P D j i).size = 64 := line_size D _
theorem lnB_word (G : GdR P D j) {i k : Nat} (hk : k < 8) : wdL (lnB P D j i).data.toList k = wdR P D j i k := line_words G.calm G.mb k hk
/-- It is what its words say. -/
theorem lnB_of (G : GdR P D j) {i : Nat} {s : ByteArray} (hs : s.size = 64) (h : ∀ k, k < 8 → wdR P D j i k = wdL s.data.toList k) : lnB P D j i = s := getT_of G.calm hs h
/-- Two regions whose words are the same read the same. -/
theorem lnB_same {P2 : PlanR} {D2 : DevS} {j2 i : Nat} (G : GdR P D j) (G2 : GdR P2 D2 j2) (h : ∀ k, k < 8 → wdR P D j i k = wdR P2 D2 j2 i k) : lnB P D j i = lnB P2 D2 j2 i :=
  lnB_of G (lnB_size _ _ _ _) fun k hk => by rw [h k hk, lnB_word G2 hk]
theorem rg_read (hP : OkR P) (G : GdR P D j) (i : Nat) (hi : i < P.l) {m : Nat} (h : RgIs w kb q a P B0 m j c) (hd : DevIs w a D) :
    Calls Tryz.prog 13 #[.pointer (some ⟨kb, 0, none⟩), .int .i64 (i : Int)] w fun e w' => e = .returned (.tuple #[.string (lnB P D j i), .int .i64 0]) ∧ Gr [] w w' := by
  have r := rgread_any i hi h hd G.fit
  have hz := slotJ_in hP j i hi
  rw [gd_reads hP G hz.1 (by omega), slotJ_N P j i hP.l1] at r
  exact r
end
end Go.Proofs.YtdgcninmpcmdcaaGreat

/-
  Layer 7: a region laid on a new device, and opened.
-/
namespace Go.Proofs.YtdgcninmpcmdcaaGreat
open Go.RowKit
set_option linter.unusedVariables false

theorem rg_begin {P : PlanR} (hP : OkR P) (n : Nat) (hfit : (bankR P).a + sizeZ (bankR P) ≤ (n : Int)) :
    ∃ E, GdR P E 0 ∧ E.n = n ∧ (∀ i k, i < P.l → k < 8 → wdR P E 0 i k = 0) ∧
      (∀ (w : World) (a : DevA), DevIs w a (newD n) → Calls Tryz.prog 23 #[.pointer (some ⟨a.bd, 0, none⟩), planRV P] w fun e w' => e = .returned (.int .i64 0) ∧ DevIs w' a E ∧ Bd E 12000 ∧ Gr a.all w w') ∧
      (∀ (w : World) (a : DevA), DevIs w a E → Calls Tryz.prog 20 #[.pointer (some ⟨a.bd, 0, none⟩), planRV P] w fun e w' => ∃ (kb : Nat) (q : BkA), e = .returned (.tuple #[.pointer (some ⟨kb, 0, none⟩), .int .i64 0]) ∧ RgIs w' kb q a P B0 64 0 0 ∧ (∀ x ∈ kb :: q.all, w.heap.size ≤ x) ∧ Gr [] w w') := by
  obtain ⟨q1, q2, q3, q4, q5, q6⟩ := rg_nums hP
  have ha : (bankR P).a = P.a := rfl
  have hbl : (bankR P).l = (P.l : Int) + 2 := rfl
  obtain ⟨L, hL⟩ : ∃ L : Nat, L = (tabZ (bankR P) + (bankR P).l).toNat := ⟨_, rfl⟩
  obtain ⟨z1, n1, b1⟩ := fmt_zero (p := bankR P) (zero_new n) q1 L (by show P.a + (L : Int) ≤ (n : Int); omega)
  obtain ⟨F, hF⟩ : ∃ F, F = fmtD (bankR P) L (newD n) := ⟨_, rfl⟩
  rw [← hF] at z1 n1 b1
  have n2 : F.n = n := n1
  obtain ⟨E, f1, f2, f3, f4⟩ := gd_fresh hP z1 (by rw [b1]; rfl) (by rw [n2]; exact hfit)
  refine ⟨E, f2, f3.trans n2, cont_fresh hP f4, fun w a d => ?_, fun w a d => ?_⟩
  · exact rgformat_ok (P := P) (D1 := E) (B1 := B0) (cc := 0) hP d (zero_new n) rfl ⟨Nat.le_refl _, fun l => ⟨Int.le_refl _, Int.le_refl _⟩⟩ (by omega) (by
      unfold checkZ
      rw [if_pos hP.ok, if_neg (by show ¬ ((n : Int) < _); omega)]) (by rw [← hL, ← hF]; exact f1)
  · exact rgopen_ok (P := P) (j := 0) hP d f2.calm.off (gd_check hP f2) (gd_opens hP f2) (gd_reads hP f2 (by omega) (by omega)) (by rw [line_words f2.calm f2.mb 0 (by omega), Nat.add_zero]; exact f2.reg) (by rw [line_size]; unfold maxLen; omega) (by omega)
theorem small_okR {P : PlanR} (l1 : 1 ≤ P.l) (l5 : P.l ≤ 5) (a0 : 0 ≤ P.a) (a1 : P.a ≤ 1) (p1 : 1 ≤ P.psi) (p4 : P.psi ≤ 4) (s0 : 0 ≤ P.s) (s8 : P.s ≤ 8) : OkR P ∧ (bankR P).a + sizeZ (bankR P) ≤ 30 := by
  have hok : OkR P := ⟨l1, by omega, p1, by omega, (okZ_iff _).2 ⟨a0, by show P.a ≤ 8192; omega, by show 1 ≤ (P.l : Int) + 2; omega, by show (P.l : Int) + 2 ≤ 1026; omega, by show 0 ≤ P.s; omega, by show P.s ≤ 64; omega⟩⟩
  obtain ⟨q1, q2, q3, q4, q5, q6⟩ := rg_nums hok
  have htb : tabZ (bankR P) = (P.s + 7) / 8 := rfl
  have ha : (bankR P).a = P.a := rfl
  exact ⟨hok, by omega⟩
end Go.Proofs.YtdgcninmpcmdcaaGreat

/-
  Layer 7: a region at work, told by what its lines have alone.
-/
namespace Go.Proofs.YtdgcninmpcmdcaaGreat
open Go.RowKit
set_option linter.unusedVariables false

/-- The answer of a line that may not be. -/
def errP (l : Nat) (i : Int) : Int := if i < 0 ∨ (l : Int) ≤ i then 3 else 0
/-- The answer of a word. -/
def errK (l : Nat) (i k : Int) : Int := if k < 0 ∨ 8 ≤ k then 2 else errP l i
/-- What is there behind a line's write. -/
def putF (F : Nat → Nat → Nat) (i : Int) (s : ByteArray) : Nat → Nat → Nat := fun i2 k => if (i2 : Int) = i then wdL s.data.toList k else F i2 k
def wwF (F : Nat → Nat → Nat) (i k : Int) (v : Nat) : Nat → Nat → Nat := fun i2 k2 => if (i2 : Int) = i ∧ (k2 : Int) = k then v else F i2 k2
open Classical in
/-- The line with these words. -/
noncomputable def lnF (F : Nat → Nat → Nat) (i : Nat) : ByteArray :=
  if h : ∃ t : ByteArray, t.size = 64 ∧ ∀ k, k < 8 → wdL t.data.toList k = F i k then Classical.choose h else ⟨#[]⟩
/-- Behind n writes at most, the lines have F. -/
structure RR (P : PlanR) (kb : Nat) (q : BkA) (a : DevA) (F : Nat → Nat → Nat) (n : Nat) (w : World) : Prop where
  ok : OkR P
  st : ∃ (D : DevS) (j c : Nat), GdR P D j ∧ j ≤ n ∧ (∀ i k, i < P.l → k < 8 → wdR P D j i k = F i k) ∧ RgIs w kb q a P B0 (64 + 192 * n) j c ∧ DevIs w a D ∧ Bd D (12000 + 4200 * n)
section
variable {w w' : World} {kb : Nat} {q : BkA} {a : DevA} {P : PlanR} {F : Nat → Nat → Nat} {n : Nat}
theorem RR.gr {bs : List Nat} (h : RR P kb q a F n w) (g : Gr bs w w') (hn : ∀ x ∈ kb :: (q.all ++ a.all), x ∉ bs) : RR P kb q a F n w' := by
  obtain ⟨D, j, c, h1, h2, h3, h4, h5, h6⟩ := h.st
  exact ⟨h.ok, D, j, c, h1, h2, h3, h4.gr g (hn _ (by simp)) (fun b hb => hn b (by simp [hb])), h5.gr g (fun b hb => hn b (by simp [hb])), h6⟩
theorem RR.gr0 (h : RR P kb q a F n w) (g : Gr [] w w') : RR P kb q a F n w' := h.gr g (by simp)
theorem RR.lt (h : RR P kb q a F n w) : ∀ x ∈ kb :: (q.all ++ a.all), x < w.heap.size := by
  obtain ⟨D, j, c, h1, h2, h3, h4, h5, h6⟩ := h.st
  intro x hx
  rcases List.mem_cons.1 hx with rfl | hx
  · exact h4.head.lt
  · rcases List.mem_append.1 hx with hx | hx
    · exact h4.bk.lt _ hx
    · exact h5.lt _ hx
theorem RR.put (h : RR P kb q a F n w) (hn : n < 100) (i : Int) (s : ByteArray) (hs : s.size = 64) :
    Calls Tryz.prog 9 #[.pointer (some ⟨kb, 0, none⟩), .int .i64 i, .string s] w fun e w' => e = .returned (.int .i64 (errP P.l i)) ∧ RR P kb q a (putF F i s) (n + 1) w' ∧ Gr (kb :: (q.all ++ a.all)) w w' := by
  obtain ⟨hP, D, j, c, h1, h2, h3, h4, h5, h6⟩ := h
  by_cases ho : i < 0 ∨ (P.l : Int) ≤ i
  · refine (rgwrite_out i s h4 hs ho).mono ?_
    rintro e w2 ⟨rfl, g⟩
    refine ⟨by unfold errP; rw [if_pos ho], ⟨hP, D, j, c, h1, by omega, fun i2 k hi hk => ?_, (h4.gr0 g).moreN (by omega), h5.gr0 g, h6.mono (by omega)⟩, g.of0⟩
    unfold putF
    rw [if_neg (by omega)]
    exact h3 i2 k hi hk
  · obtain ⟨ii, rfl⟩ : ∃ ii : Nat, i = (ii : Int) := ⟨i.toNat, by omega⟩
    obtain ⟨D3, j3, c3, k1, k2, k3, k4, k5⟩ := rg_put hP h1 ii s hs (by omega) (by omega) c
    refine (k5 kb q a w _ _ h4 h5 h6 (by omega) (by omega)).mono ?_
    rintro e w2 ⟨rfl, d, b, r, g⟩
    refine ⟨by unfold errP; rw [if_neg ho], ⟨hP, D3, j3, c3, k1, by omega, fun i2 k hi hk => ?_, r.moreN (by omega), d, b.mono (by omega)⟩, g⟩
    rw [k4 i2 k hi hk, h3 i2 k hi hk]
    unfold putF
    by_cases e : i2 = ii
    · rw [if_pos e, if_pos (by omega)]
    · rw [if_neg e, if_neg (by omega)]
theorem RR.word (h : RR P kb q a F n w) (hn : n < 100) (i k : Int) (v : Nat) (hv : v < 18446744073709551616) :
    Calls Tryz.prog 12 #[.pointer (some ⟨kb, 0, none⟩), .int .i64 i, .int .i64 k, .int .u64 (v : Int)] w fun e w' => e = .returned (.int .i64 (errK P.l i k)) ∧ RR P kb q a (wwF F i k v) (n + 1) w' ∧ Gr (kb :: (q.all ++ a.all)) w w' := by
  obtain ⟨hP, D, j, c, h1, h2, h3, h4, h5, h6⟩ := h
  by_cases hk : k < 0 ∨ 8 ≤ k
  · refine (rgww_arg i k v hk).mono ?_
    rintro e w2 ⟨rfl, g⟩
    refine ⟨by unfold errK; rw [if_pos hk], ⟨hP, D, j, c, h1, by omega, fun i2 k2 hi hk2 => ?_, (h4.gr0 g).moreN (by omega), h5.gr0 g, h6.mono (by omega)⟩, g.of0⟩
    unfold wwF
    rw [if_neg (by omega)]
    exact h3 i2 k2 hi hk2
  · by_cases ho : i < 0 ∨ (P.l : Int) ≤ i
    · refine (rgww_out i k v h4 (by omega) (by omega) ho).mono ?_
      rintro e w2 ⟨rfl, g⟩
      refine ⟨by unfold errK errP; rw [if_neg hk, if_pos ho], ⟨hP, D, j, c, h1, by omega, fun i2 k2 hi hk2 => ?_, (h4.gr0 g).moreN (by omega), h5.gr0 g, h6.mono (by omega)⟩, g.of0⟩
      unfold wwF
      rw [if_neg (by omega)]
      exact h3 i2 k2 hi hk2
    · obtain ⟨ii, rfl⟩ : ∃ ii : Nat, i = (ii : Int) := ⟨i.toNat, by omega⟩
      obtain ⟨kk, rfl⟩ : ∃ kk : Nat, k = (kk : Int) := ⟨k.toNat, by omega⟩
      obtain ⟨D3, j3, c3, k1, k2, k3, k4, k5⟩ := rg_word hP h1 ii kk v (by omega) (by omega) hv (by omega) c
      refine (k5 kb q a w _ _ h4 h5 h6 (by omega) (by omega)).mono ?_
      rintro e w2 ⟨rfl, d, b, r, g⟩
      refine ⟨by unfold errK errP; rw [if_neg hk, if_neg ho], ⟨hP, D3, j3, c3, k1, by omega, fun i2 k hi hk => ?_, r.moreN (by omega), d, b.mono (by omega)⟩, g⟩
      rw [k4 i2 k hi hk, h3 i2 k hi hk]
      unfold wwF
      by_cases e : i2 = ii ∧ k = kk
      · rw [if_pos e, if_pos (by omega)]
      · rw [if_neg e, if_neg (by omega)]
theorem RR.read (h : RR P kb q a F n w) (i : Nat) (hi : i < P.l) :
    Calls Tryz.prog 13 #[.pointer (some ⟨kb, 0, none⟩), .int .i64 (i : Int)] w fun e w' => e = .returned (.tuple #[.string (lnF F i), .int .i64 0]) ∧ Gr [] w w' := by
  obtain ⟨hP, D, j, c, h1, h2, h3, h4, h5, h6⟩ := h
  have hx : ∃ t : ByteArray, t.size = 64 ∧ ∀ k, k < 8 → wdL t.data.toList k = F i k := ⟨lnB P D j i, lnB_size _ _ _ _, fun k hk => by rw [lnB_word h1 hk, h3 i k hi hk]⟩
  have e : lnF F i = lnB P D j i := by
    unfold lnF
    rw [dif_pos hx]
    obtain ⟨s1, s2⟩ := Classical.choose_spec hx
    exact (lnB_of h1 s1 fun k hk => by rw [s2 k hk, h3 i k hi hk]).symm
  rw [e]
  exact rg_read hP h1 i hi h4 h5
theorem RR.begin (hP : OkR P) (hfit : (bankR P).a + sizeZ (bankR P) ≤ 30) :
    ∃ E : DevS, (∀ (w : World) (a : DevA), DevIs w a (newD 30) → Calls Tryz.prog 23 #[.pointer (some ⟨a.bd, 0, none⟩), planRV P] w fun e w' => e = .returned (.int .i64 0) ∧ (DevIs w' a E ∧ Bd E 12000) ∧ Gr a.all w w') ∧
      (∀ (w : World) (a : DevA), DevIs w a E ∧ Bd E 12000 → Calls Tryz.prog 20 #[.pointer (some ⟨a.bd, 0, none⟩), planRV P] w fun e w' => ∃ (kb : Nat) (q : BkA), e = .returned (.tuple #[.pointer (some ⟨kb, 0, none⟩), .int .i64 0]) ∧ RR P kb q a (fun _ _ => 0) 0 w' ∧ (∀ x ∈ kb :: q.all, w.heap.size ≤ x) ∧ Gr [] w w') := by
  obtain ⟨E, e1, e2, e3, e4, e5⟩ := rg_begin hP 30 hfit
  refine ⟨E, fun w a d => (e4 w a d).mono ?_, fun w a d => (e5 w a d.1).mono ?_⟩
  · rintro e w2 ⟨p1, p2, p3, p4⟩
    exact ⟨p1, ⟨p2, p3⟩, p4⟩
  · rintro e w2 ⟨kb, q, p1, p2, p3, p4⟩
    exact ⟨kb, q, p1, ⟨hP, E, 0, 0, e1, Nat.le_refl _, e3, p2, d.1.gr0 p4, d.2⟩, p3, p4⟩
end
end Go.Proofs.YtdgcninmpcmdcaaGreat
