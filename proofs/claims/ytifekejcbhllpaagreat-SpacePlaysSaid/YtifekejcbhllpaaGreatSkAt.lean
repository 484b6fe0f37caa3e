/-
  Layer 7: move, Write and WriteWord, whatever comes of them.
-/
import Derived.Test.YtifekejcbhllpaaGreatSkAr

namespace Go.Proofs.YtifekejcbhllpaaGreat
open Go.RowKit
set_option linter.unusedVariables false

/-- What a move does. -/
def movZ (P : PlanR) (D : DevS) (B : BkS) (j : Nat) : Int × DevS × BkS :=
  if (writeS (bankR P) (toI P j) (readR D (bankR P) B (fromI P j)).1 D B).1 = 0 then writeWordS (bankR P) ((P.l : Int) + 1) 0 (pkN P (j + 1)) (writeS (bankR P) (toI P j) (readR D (bankR P) B (fromI P j)).1 D B).2.1 (writeS (bankR P) (toI P j) (readR D (bankR P) B (fromI P j)).1 D B).2.2
  else writeS (bankR P) (toI P j) (readR D (bankR P) B (fromI P j)).1 D B
/-- What a write does: the answer, the device, the bank, the moves, the writes since. -/
def regZ (P : PlanR) (i : Nat) (f : Int → DevS → BkS → Int × DevS × BkS) (D : DevS) (B : BkS) (j c : Nat) : Int × DevS × BkS × Nat × Nat :=
  if P.psi ≤ (c : Int) then
    (if (movZ P D B j).1 = 0 then ((f (slotJ P (j + 1) i) (movZ P D B j).2.1 (movZ P D B j).2.2).1, (f (slotJ P (j + 1) i) (movZ P D B j).2.1 (movZ P D B j).2.2).2.1, (f (slotJ P (j + 1) i) (movZ P D B j).2.1 (movZ P D B j).2.2).2.2, j + 1, if (f (slotJ P (j + 1) i) (movZ P D B j).2.1 (movZ P D B j).2.2).1 = 0 then 1 else 0)
    else ((movZ P D B j).1, (movZ P D B j).2.1, (movZ P D B j).2.2, j, c))
  else ((f (slotJ P j i) D B).1, (f (slotJ P j i) D B).2.1, (f (slotJ P j i) D B).2.2, j, if (f (slotJ P j i) D B).1 = 0 then c + 1 else c)
section
variable {w w' : World} {kb : Nat} {q : BkA} {a : DevA} {P : PlanR} {B : BkS} {m j c cc : Nat} {D : DevS}
set_option maxRecDepth 100000 in
set_option maxHeartbeats 8000000 in
/-- A move whose first write fails. -/
theorem rmove_bad1 {e1 : Int} {D1 : DevS} {B1 : BkS} (h : RgIs w kb q a P B m j c) (hd : DevIs w a D) (hb : Bd D cc) (hcc : cc < 600000000) (hm : m < 80000000) (hj : j < 4294967295) (hn : (bankR P).a + sizeZ (bankR P) ≤ (D.n : Int))
    (hR : (readR D (bankR P) B (fromI P j)).2 = 0) (hW : writeS (bankR P) (toI P j) (readR D (bankR P) B (fromI P j)).1 D B = (e1, D1, B1)) (he1 : ¬ e1 = 0) :
    Calls Tryz.prog 155 #[.pointer (some ⟨kb, 0, none⟩)] w fun e w' => e = .returned (.int .i64 e1) ∧ DevIs w' a D1 ∧ Bd D1 (cc + 2800) ∧ RgIs w' kb q a P B1 (m + 128) j c ∧ Gr (kb :: (q.all ++ a.all)) w w' := by
  obtain ⟨k1, k2⟩ := pkN_val h.ok (j + 1) (by omega)
  have HK := Lib.hid (And.intro k1 k2)
  have HNx := Lib.hid (fun W => next_j (P := P) (j := j) h.ok hj W)
  have HRd := Lib.hid (fun W (q1 : BkIs W q a (bankR P) B m) (q2 : DevIs W a D) => read_any (fromI P j) q1 q2 hn)
  rw [hR] at HRd
  have hts := readR_size (D := D) (P := P) (B := B) (fromI P j)
  obtain ⟨T, hT⟩ : ∃ T, T = (readR D (bankR P) B (fromI P j)).1 := ⟨_, rfl⟩
  rw [← hT] at HRd hW hts
  have HWr := Lib.hid (fun W (q1 : BkIs W q a (bankR P) B m) (q2 : DevIs W a D) => bwrite_any (toI P j) T q1 q2 hb (by omega) (by unfold maxLen; omega) (by omega))
  rw [hW] at HWr
  have HPk := Lib.hid (fun W => pack_bel (sAt P.l (j + 1)) (gAt P.l (j + 1)) ((j + 1 : Nat) : Int) W (by omega))
  have HRg := Lib.hid (fun W => show Calls Tryz.prog 116 #[.agg #[.int .i64 P.a, .int .i64 (P.l : Int), .int .i64 P.s, .int .i64 P.psi]] W _ from reg_any h.ok W)
  have H := Lib.hid h
  have HD := Lib.hid hd
  have c0 := h.c0
  have c1 := h.c1
  have c2 := h.c2
  have c3 := h.c3
  have c4 := h.c4
  have c5 := h.c5
  have c6 := h.c6
  have c7 := h.c7
  obtain ⟨S2, hS2⟩ : ∃ S2 : Int, S2 = sAt P.l (j + 1) := ⟨_, rfl⟩
  obtain ⟨G2, hG2⟩ : ∃ G2 : Int, G2 = gAt P.l (j + 1) := ⟨_, rfl⟩
  obtain ⟨J2, hJ2⟩ : ∃ J2 : Int, J2 = ((j + 1 : Nat) : Int) := ⟨_, rfl⟩
  have HSG := Lib.hid (And.intro hS2 (And.intro hG2 hJ2))
  rw [← hS2, ← hG2, ← hJ2] at HNx HPk
  clear h hd hb hcc hm hj hn hR hW k1 k2 hts hT hS2 hG2 hJ2
  generalize sAt P.l j = sj at *
  generalize gAt P.l j = gj at *
  generalize fromI P j = ff at *
  generalize toI P j = tt at *
  generalize pkI S2 G2 J2 = pk at *
  go_enter Tryz.func155, Tryz.ntmps155
  go_wp2_with fail
  have HKc := Lib.hid (show ∀ W W' : World, (W.cell? ⟨kb, 1, none⟩ = some (.int .i64 (P.l : Int)) ∧ W.cell? ⟨kb, 5, none⟩ = some (.int .i64 sj) ∧ W.cell? ⟨kb, 6, none⟩ = some (.int .i64 gj) ∧ W.cell? ⟨kb, 7, none⟩ = some (.int .u32 (j : Int))) → Gr [] W W' → (W'.cell? ⟨kb, 1, none⟩ = some (.int .i64 (P.l : Int)) ∧ W'.cell? ⟨kb, 5, none⟩ = some (.int .i64 sj) ∧ W'.cell? ⟨kb, 6, none⟩ = some (.int .i64 gj) ∧ W'.cell? ⟨kb, 7, none⟩ = some (.int .u32 (j : Int))) from fun W W' q g =>
    ⟨(g.cell0 (World.block_lt_of_cell? _ _ q.1)).trans q.1, (g.cell0 (World.block_lt_of_cell? _ _ q.2.1)).trans q.2.1, (g.cell0 (World.block_lt_of_cell? _ _ q.2.2.1)).trans q.2.2.1, (g.cell0 (World.block_lt_of_cell? _ _ q.2.2.2)).trans q.2.2.2⟩)
  have HKs := Lib.hid (show ∀ (W : World) (nb : Nat) (u0 u1 u2 : Value), nb ≠ kb → (W.cell? ⟨kb, 1, none⟩ = some (.int .i64 (P.l : Int)) ∧ W.cell? ⟨kb, 5, none⟩ = some (.int .i64 sj) ∧ W.cell? ⟨kb, 6, none⟩ = some (.int .i64 gj) ∧ W.cell? ⟨kb, 7, none⟩ = some (.int .u32 (j : Int))) → ((((W.setCell ⟨nb, 0, none⟩ u0).setCell ⟨nb, 1, none⟩ u1).setCell ⟨nb, 2, none⟩ u2).cell? ⟨kb, 1, none⟩ = some (.int .i64 (P.l : Int)) ∧ (((W.setCell ⟨nb, 0, none⟩ u0).setCell ⟨nb, 1, none⟩ u1).setCell ⟨nb, 2, none⟩ u2).cell? ⟨kb, 5, none⟩ = some (.int .i64 sj) ∧ (((W.setCell ⟨nb, 0, none⟩ u0).setCell ⟨nb, 1, none⟩ u1).setCell ⟨nb, 2, none⟩ u2).cell? ⟨kb, 6, none⟩ = some (.int .i64 gj) ∧ (((W.setCell ⟨nb, 0, none⟩ u0).setCell ⟨nb, 1, none⟩ u1).setCell ⟨nb, 2, none⟩ u2).cell? ⟨kb, 7, none⟩ = some (.int .u32 (j : Int))) from fun W nb u0 u1 u2 hne q => by
    have g : Gr [nb] W (((W.setCell ⟨nb, 0, none⟩ u0).setCell ⟨nb, 1, none⟩ u1).setCell ⟨nb, 2, none⟩ u2) := (((Gr.refl [nb] W).setCell (p := ⟨nb, 0, none⟩) (.inl (by simp)) _).setCell (p := ⟨nb, 1, none⟩) (.inl (by simp)) _).setCell (p := ⟨nb, 2, none⟩) (.inl (by simp)) _
    have hn : kb ∉ [nb] := by simp; exact fun e => hne e.symm
    exact ⟨(cell_gr7 g (World.block_lt_of_cell? _ _ q.1) hn).trans q.1, (cell_gr7 g (World.block_lt_of_cell? _ _ q.2.1) hn).trans q.2.1, (cell_gr7 g (World.block_lt_of_cell? _ _ q.2.2.1) hn).trans q.2.2.1, (cell_gr7 g (World.block_lt_of_cell? _ _ q.2.2.2) hn).trans q.2.2.2⟩)
  have HNE := Lib.hid (show w.heap.size ≠ kb from fun e => by have := H.out.head.lt; omega)
  have s0 := And.intro c1 (And.intro c5 (And.intro c6 c7))
  have s4 := HKc.out _ _ s0 (Gr.refl [] w).drew
  have HG0 := Lib.hid ((Gr.refl [] w).drew)
  clear c0 c1 c2 c3 c4 c5 c6 c7
  go_cut [3, 4, 5] (fun b3 v4 v5 wz => v4 = .int .i64 ff ∧ v5 = .int .i64 tt ∧ ∃ nb : Nat, b3 = .pointer (some ⟨nb, 0, none⟩) ∧ Holds wz nb #[.int .i64 S2, .int .i64 G2, .int .u32 J2] 142 ∧ w.heap.size ≤ nb ∧ Gr [] w wz)
  case first =>
    go_region_held3 (fun w' : World => w'.cell? ⟨kb, 1, none⟩ = some (.int .i64 (P.l : Int)) ∧ w'.cell? ⟨kb, 5, none⟩ = some (.int .i64 sj) ∧ w'.cell? ⟨kb, 6, none⟩ = some (.int .i64 gj) ∧ w'.cell? ⟨kb, 7, none⟩ = some (.int .u32 (j : Int))) (first | assumption | exact HKc.out w _ s0 (((Gr.refl [] w).alloc _).drew) | exact HKc.out _ _ (by assumption) ((Gr.refl [] _).alloc _) | exact HKc.out _ _ (by assumption) (((Gr.refl [] _).alloc _).drew) | exact HKs.out _ _ _ _ _ HNE.out (by assumption) | go_keep) ((go_at_call 176; (with_reducible refine Calls.mono (HNx.out _) ?_); rintro e w2 ⟨rfl, g2⟩; first
      | (have s4 := HKc.out _ _ s4 g2; have HG2 := Lib.hid (HG0.out.trans g2); clear g2)
      | (have s4 := HKc.out _ _ (HKc.out w _ s0 (((Gr.refl [] w).alloc _).drew)) g2; have HZ := ((Holds.new w #[.int .i64 0, .int .i64 0, .int .u32 0] 142).gr0 ((Gr.refl [] _).drew)).gr0 g2; have z0 := HZ.cell 0; have z1 := HZ.cell 1; have z2 := HZ.cell 2; have fz0 := HZ.frozen 0; have fz1 := HZ.frozen 1; have fz2 := HZ.frozen 2; have HG2 := Lib.hid (((Gr.refl [] w).alloc (Obj.cells #[.int .i64 0, .int .i64 0, .int .u32 0] 142)).drew.trans g2); have HZH := Lib.hid HZ; clear g2 HZ)))
    all_goals
      go_wp2_with fail
      go_meet
      first
        | exact ⟨rfl, rfl, _, rfl, Holds.new _ _ _, HG2.out.size, HG2.out.trans ((Gr.refl [] _).alloc _)⟩
        | exact ⟨rfl, rfl, _, rfl, ((HZH.out.set 0 (.int .i64 S2)).set 1 (.int .i64 G2)).set 2 (.int .u32 J2), Nat.le_refl _, ((HG2.out.setCell (p := ⟨w.heap.size, 0, none⟩) (.inr (Nat.le_refl _)) _).setCell (p := ⟨w.heap.size, 1, none⟩) (.inr (Nat.le_refl _)) _).setCell (p := ⟨w.heap.size, 2, none⟩) (.inr (Nat.le_refl _)) _⟩
  obtain ⟨rfl, rfl, nb, rfl, hh, hnb, hg⟩ := hcut
  obtain ⟨w3, hw3⟩ : ∃ w3, w3 = wc := ⟨_, rfl⟩
  rw [← hw3] at hh hg ⊢
  clear hw3
  have HN := Lib.hid hh
  have H3 := Lib.hid (And.intro (H.out.gr0 hg) (And.intro (HD.out.gr0 hg) hg))
  have HNB := Lib.hid (show nb ∉ a.all ∧ nb ∉ q.all ∧ nb ≠ kb ∧ w.heap.size ≤ nb from ⟨fun e => by have := HD.out.lt _ e; omega, fun e => by have := H.out.bk.lt _ e; omega, fun e => by have := H.out.head.lt; omega, hnb⟩)
  clear hh hnb hg
  have c4 := H3.out.1.c4
  go_wp2_with fail
  refine (HRd.out _ H3.out.1.bk H3.out.2.1).mono ?_
  rintro e w4 ⟨rfl, g4⟩
  have H4 := Lib.hid (And.intro (H3.out.1.gr0 g4) (And.intro (H3.out.2.1.gr0 g4) (And.intro (H3.out.2.2.trans g4) (HN.out.gr0 g4))))
  have c4 := H4.out.1.c4
  clear g4 H3 HN HRd
  go_wp2_with fail
  refine (HWr.out _ H4.out.1.bk H4.out.2.1).mono ?_
  rintro e w5 ⟨rfl, d5, b5, k5, g5⟩
  have H5 := Lib.hid (And.intro (H4.out.1.bank g5 k5) (And.intro d5 (And.intro b5 (And.intro ((H4.out.2.2.1.of0 (cs := q.all ++ a.all)).trans g5) (H4.out.2.2.2.gr g5 (by simp only [List.mem_append, not_or]; exact ⟨HNB.out.2.1, HNB.out.1⟩))))))
  clear d5 b5 k5 g5 c4 H4 HWr
  go_wp2_with fail
  go_ret
  exact ⟨rfl, H5.out.2.1, H5.out.2.2.1.mono (by omega), H5.out.1.moreN (by omega), H5.out.2.2.2.1.mono (fun b hb => List.mem_cons_of_mem _ hb)⟩
set_option maxRecDepth 100000 in
set_option maxHeartbeats 8000000 in
/-- A move whose register fails. -/
theorem rmove_bad2 {e2 : Int} {D1 D2 : DevS} {B1 B2 : BkS} (h : RgIs w kb q a P B m j c) (hd : DevIs w a D) (hb : Bd D cc) (hcc : cc < 600000000) (hm : m < 80000000) (hj : j < 4294967295) (hn : (bankR P).a + sizeZ (bankR P) ≤ (D.n : Int)) (hn1 : D1.n = D.n)
    (hR : (readR D (bankR P) B (fromI P j)).2 = 0) (hW : writeS (bankR P) (toI P j) (readR D (bankR P) B (fromI P j)).1 D B = (0, D1, B1)) (hV : writeWordS (bankR P) ((P.l : Int) + 1) 0 (pkN P (j + 1)) D1 B1 = (e2, D2, B2)) (he2 : ¬ e2 = 0) :
    Calls Tryz.prog 155 #[.pointer (some ⟨kb, 0, none⟩)] w fun e w' => e = .returned (.int .i64 e2) ∧ DevIs w' a D2 ∧ Bd D2 (cc + 2800) ∧ RgIs w' kb q a P B2 (m + 128) j c ∧ Gr (kb :: (q.all ++ a.all)) w w' := by
  obtain ⟨k1, k2⟩ := pkN_val h.ok (j + 1) (by omega)
  have HK := Lib.hid (And.intro k1 k2)
  have HNx := Lib.hid (fun W => next_j (P := P) (j := j) h.ok hj W)
  have HRd := Lib.hid (fun W (q1 : BkIs W q a (bankR P) B m) (q2 : DevIs W a D) => read_any (fromI P j) q1 q2 hn)
  rw [hR] at HRd
  have hts := readR_size (D := D) (P := P) (B := B) (fromI P j)
  obtain ⟨T, hT⟩ : ∃ T, T = (readR D (bankR P) B (fromI P j)).1 := ⟨_, rfl⟩
  rw [← hT] at HRd hW hts
  have HWr := Lib.hid (fun W (q1 : BkIs W q a (bankR P) B m) (q2 : DevIs W a D) => bwrite_any (toI P j) T q1 q2 hb (by omega) (by unfold maxLen; omega) (by omega))
  rw [hW] at HWr
  have HWw := Lib.hid (fun W (q1 : BkIs W q a (bankR P) B1 (m + 64)) (q2 : DevIs W a D1) (q3 : Bd D1 (cc + 1400)) => show Calls Tryz.prog 115 #[.pointer (some ⟨q.b, 0, none⟩), .int .i64 ((P.l : Int) + 1), .int .i64 0, .int .u64 (pkI (sAt P.l (j + 1)) (gAt P.l (j + 1)) ((j + 1 : Nat) : Int))] W _ by
    rw [← HK.out.1]
    exact bww_any ((P.l : Int) + 1) 0 (pkN P (j + 1)) q1 q2 q3 (by omega) HK.out.2 (by rw [hn1]; exact hn) (by omega))
  rw [hV] at HWw
  have HPk := Lib.hid (fun W => pack_bel (sAt P.l (j + 1)) (gAt P.l (j + 1)) ((j + 1 : Nat) : Int) W (by omega))
  have HRg := Lib.hid (fun W => show Calls Tryz.prog 116 #[.agg #[.int .i64 P.a, .int .i64 (P.l : Int), .int .i64 P.s, .int .i64 P.psi]] W _ from reg_any h.ok W)
  have H := Lib.hid h
  have HD := Lib.hid hd
  have c0 := h.c0
  have c1 := h.c1
  have c2 := h.c2
  have c3 := h.c3
  have c4 := h.c4
  have c5 := h.c5
  have c6 := h.c6
  have c7 := h.c7
  obtain ⟨S2, hS2⟩ : ∃ S2 : Int, S2 = sAt P.l (j + 1) := ⟨_, rfl⟩
  obtain ⟨G2, hG2⟩ : ∃ G2 : Int, G2 = gAt P.l (j + 1) := ⟨_, rfl⟩
  obtain ⟨J2, hJ2⟩ : ∃ J2 : Int, J2 = ((j + 1 : Nat) : Int) := ⟨_, rfl⟩
  have HSG := Lib.hid (And.intro hS2 (And.intro hG2 hJ2))
  rw [← hS2, ← hG2, ← hJ2] at HNx HPk HWw
  clear h hd hb hcc hm hj hn hn1 hR hW hV k1 k2 hts hT hS2 hG2 hJ2
  generalize sAt P.l j = sj at *
  generalize gAt P.l j = gj at *
  generalize fromI P j = ff at *
  generalize toI P j = tt at *
  generalize pkI S2 G2 J2 = pk at *
  go_enter Tryz.func155, Tryz.ntmps155
  go_wp2_with fail
  have HKc := Lib.hid (show ∀ W W' : World, (W.cell? ⟨kb, 1, none⟩ = some (.int .i64 (P.l : Int)) ∧ W.cell? ⟨kb, 5, none⟩ = some (.int .i64 sj) ∧ W.cell? ⟨kb, 6, none⟩ = some (.int .i64 gj) ∧ W.cell? ⟨kb, 7, none⟩ = some (.int .u32 (j : Int))) → Gr [] W W' → (W'.cell? ⟨kb, 1, none⟩ = some (.int .i64 (P.l : Int)) ∧ W'.cell? ⟨kb, 5, none⟩ = some (.int .i64 sj) ∧ W'.cell? ⟨kb, 6, none⟩ = some (.int .i64 gj) ∧ W'.cell? ⟨kb, 7, none⟩ = some (.int .u32 (j : Int))) from fun W W' q g =>
    ⟨(g.cell0 (World.block_lt_of_cell? _ _ q.1)).trans q.1, (g.cell0 (World.block_lt_of_cell? _ _ q.2.1)).trans q.2.1, (g.cell0 (World.block_lt_of_cell? _ _ q.2.2.1)).trans q.2.2.1, (g.cell0 (World.block_lt_of_cell? _ _ q.2.2.2)).trans q.2.2.2⟩)
  have HKs := Lib.hid (show ∀ (W : World) (nb : Nat) (u0 u1 u2 : Value), nb ≠ kb → (W.cell? ⟨kb, 1, none⟩ = some (.int .i64 (P.l : Int)) ∧ W.cell? ⟨kb, 5, none⟩ = some (.int .i64 sj) ∧ W.cell? ⟨kb, 6, none⟩ = some (.int .i64 gj) ∧ W.cell? ⟨kb, 7, none⟩ = some (.int .u32 (j : Int))) → ((((W.setCell ⟨nb, 0, none⟩ u0).setCell ⟨nb, 1, none⟩ u1).setCell ⟨nb, 2, none⟩ u2).cell? ⟨kb, 1, none⟩ = some (.int .i64 (P.l : Int)) ∧ (((W.setCell ⟨nb, 0, none⟩ u0).setCell ⟨nb, 1, none⟩ u1).setCell ⟨nb, 2, none⟩ u2).cell? ⟨kb, 5, none⟩ = some (.int .i64 sj) ∧ (((W.setCell ⟨nb, 0, none⟩ u0).setCell ⟨nb, 1, none⟩ u1).setCell ⟨nb, 2, none⟩ u2).cell? ⟨kb, 6, none⟩ = some (.int .i64 gj) ∧ (((W.setCell ⟨nb, 0, none⟩ u0).setCell ⟨nb, 1, none⟩ u1).setCell ⟨nb, 2, none⟩ u2).cell? ⟨kb, 7, none⟩ = some (.int .u32 (j : Int))) from fun W nb u0 u1 u2 hne q => by
    have g : Gr [nb] W (((W.setCell ⟨nb, 0, none⟩ u0).setCell ⟨nb, 1, none⟩ u1).setCell ⟨nb, 2, none⟩ u2) := (((Gr.refl [nb] W).setCell (p := ⟨nb, 0, none⟩) (.inl (by simp)) _).setCell (p := ⟨nb, 1, none⟩) (.inl (by simp)) _).setCell (p := ⟨nb, 2, none⟩) (.inl (by simp)) _
    have hn : kb ∉ [nb] := by simp; exact fun e => hne e.symm
    exact ⟨(cell_gr7 g (World.block_lt_of_cell? _ _ q.1) hn).trans q.1, (cell_gr7 g (World.block_lt_of_cell? _ _ q.2.1) hn).trans q.2.1, (cell_gr7 g (World.block_lt_of_cell? _ _ q.2.2.1) hn).trans q.2.2.1, (cell_gr7 g (World.block_lt_of_cell? _ _ q.2.2.2) hn).trans q.2.2.2⟩)
  have HNE := Lib.hid (show w.heap.size ≠ kb from fun e => by have := H.out.head.lt; omega)
  have s0 := And.intro c1 (And.intro c5 (And.intro c6 c7))
  have s4 := HKc.out _ _ s0 (Gr.refl [] w).drew
  have HG0 := Lib.hid ((Gr.refl [] w).drew)
  clear c0 c1 c2 c3 c4 c5 c6 c7
  go_cut [3, 4, 5] (fun b3 v4 v5 wz => v4 = .int .i64 ff ∧ v5 = .int .i64 tt ∧ ∃ nb : Nat, b3 = .pointer (some ⟨nb, 0, none⟩) ∧ Holds wz nb #[.int .i64 S2, .int .i64 G2, .int .u32 J2] 142 ∧ w.heap.size ≤ nb ∧ Gr [] w wz)
  case first =>
    go_region_held3 (fun w' : World => w'.cell? ⟨kb, 1, none⟩ = some (.int .i64 (P.l : Int)) ∧ w'.cell? ⟨kb, 5, none⟩ = some (.int .i64 sj) ∧ w'.cell? ⟨kb, 6, none⟩ = some (.int .i64 gj) ∧ w'.cell? ⟨kb, 7, none⟩ = some (.int .u32 (j : Int))) (first | assumption | exact HKc.out w _ s0 (((Gr.refl [] w).alloc _).drew) | exact HKc.out _ _ (by assumption) ((Gr.refl [] _).alloc _) | exact HKc.out _ _ (by assumption) (((Gr.refl [] _).alloc _).drew) | exact HKs.out _ _ _ _ _ HNE.out (by assumption) | go_keep) ((go_at_call 176; (with_reducible refine Calls.mono (HNx.out _) ?_); rintro e w2 ⟨rfl, g2⟩; first
      | (have s4 := HKc.out _ _ s4 g2; have HG2 := Lib.hid (HG0.out.trans g2); clear g2)
      | (have s4 := HKc.out _ _ (HKc.out w _ s0 (((Gr.refl [] w).alloc _).drew)) g2; have HZ := ((Holds.new w #[.int .i64 0, .int .i64 0, .int .u32 0] 142).gr0 ((Gr.refl [] _).drew)).gr0 g2; have z0 := HZ.cell 0; have z1 := HZ.cell 1; have z2 := HZ.cell 2; have fz0 := HZ.frozen 0; have fz1 := HZ.frozen 1; have fz2 := HZ.frozen 2; have HG2 := Lib.hid (((Gr.refl [] w).alloc (Obj.cells #[.int .i64 0, .int .i64 0, .int .u32 0] 142)).drew.trans g2); have HZH := Lib.hid HZ; clear g2 HZ)))
    all_goals
      go_wp2_with fail
      go_meet
      first
        | exact ⟨rfl, rfl, _, rfl, Holds.new _ _ _, HG2.out.size, HG2.out.trans ((Gr.refl [] _).alloc _)⟩
        | exact ⟨rfl, rfl, _, rfl, ((HZH.out.set 0 (.int .i64 S2)).set 1 (.int .i64 G2)).set 2 (.int .u32 J2), Nat.le_refl _, ((HG2.out.setCell (p := ⟨w.heap.size, 0, none⟩) (.inr (Nat.le_refl _)) _).setCell (p := ⟨w.heap.size, 1, none⟩) (.inr (Nat.le_refl _)) _).setCell (p := ⟨w.heap.size, 2, none⟩) (.inr (Nat.le_refl _)) _⟩
  obtain ⟨rfl, rfl, nb, rfl, hh, hnb, hg⟩ := hcut
  obtain ⟨w3, hw3⟩ : ∃ w3, w3 = wc := ⟨_, rfl⟩
  rw [← hw3] at hh hg ⊢
  clear hw3
  have HN := Lib.hid hh
  have H3 := Lib.hid (And.intro (H.out.gr0 hg) (And.intro (HD.out.gr0 hg) hg))
  have HNB := Lib.hid (show nb ∉ a.all ∧ nb ∉ q.all ∧ nb ≠ kb ∧ w.heap.size ≤ nb from ⟨fun e => by have := HD.out.lt _ e; omega, fun e => by have := H.out.bk.lt _ e; omega, fun e => by have := H.out.head.lt; omega, hnb⟩)
  clear hh hnb hg
  have c4 := H3.out.1.c4
  go_wp2_with fail
  refine (HRd.out _ H3.out.1.bk H3.out.2.1).mono ?_
  rintro e w4 ⟨rfl, g4⟩
  have H4 := Lib.hid (And.intro (H3.out.1.gr0 g4) (And.intro (H3.out.2.1.gr0 g4) (And.intro (H3.out.2.2.trans g4) (HN.out.gr0 g4))))
  have c4 := H4.out.1.c4
  clear g4 H3 HN HRd
  go_wp2_with fail
  refine (HWr.out _ H4.out.1.bk H4.out.2.1).mono ?_
  rintro e w5 ⟨rfl, d5, b5, k5, g5⟩
  have H5 := Lib.hid (And.intro (H4.out.1.bank g5 k5) (And.intro d5 (And.intro b5 (And.intro ((H4.out.2.2.1.of0 (cs := q.all ++ a.all)).trans g5) (H4.out.2.2.2.gr g5 (by simp only [List.mem_append, not_or]; exact ⟨HNB.out.2.1, HNB.out.1⟩))))))
  clear d5 b5 k5 g5 c4 H4 HWr
  have k0 := kp_cell (a := ⟨kb, 0, none⟩) H5.out.1.c0
  have k1 := kp_cell (a := ⟨kb, 1, none⟩) H5.out.1.c1
  have k2 := kp_cell (a := ⟨kb, 2, none⟩) H5.out.1.c2
  have k3 := kp_cell (a := ⟨kb, 3, none⟩) H5.out.1.c3
  have k4 := kp_cell (a := ⟨kb, 4, none⟩) H5.out.1.c4
  have n0 := kp_cell (a := ⟨nb, 0, none⟩) (show w5.cell? ⟨nb, 0, none⟩ = some (.int .i64 S2) from H5.out.2.2.2.2.cell 0)
  have n1 := kp_cell (a := ⟨nb, 1, none⟩) (show w5.cell? ⟨nb, 1, none⟩ = some (.int .i64 G2) from H5.out.2.2.2.2.cell 1)
  have n2 := kp_cell (a := ⟨nb, 2, none⟩) (show w5.cell? ⟨nb, 2, none⟩ = some (.int .u32 J2) from H5.out.2.2.2.2.cell 2)
  have hne := kp_ne w5
  go_wp2_with fail
  refine wp_region_kp_tail 11 (by kernel_rfl) (by kernel_rfl) ?_
  simp only [List.take_succ_cons, List.take_zero, List.drop_succ_cons, List.drop_zero]
  repeat (go_big_quiet_step ((rename_i x; first
    | exact kp_call x ((HRg.out _).mono fun _ _ q => ⟨q.1, q.2.below0⟩)
    | exact kp_call x (HPk.out _))))
  with_reducible refine wpQuiet_nil ?_
  rintro _ ⟨y, rfl⟩
  have gy : Gr [] w5 y.w := Gr.ofBelow (cs := []) y.h
  have H6 := Lib.hid (And.intro (H5.out.1.gr0 gy) (And.intro (H5.out.2.1.gr0 gy) (And.intro H5.out.2.2.1 (And.intro (H5.out.2.2.2.1.next0 gy) (H5.out.2.2.2.2.gr0 gy)))))
  clear k0 k1 k2 k3 k4 n0 n1 n2 hne gy H5 HRg HPk
  generalize y.w = w6 at *
  go_wp2_with fail
  refine (HWw.out _ H6.out.1.bk H6.out.2.1 H6.out.2.2.1).mono ?_
  rintro e w7 ⟨rfl, d7, b7, k7, g7⟩
  have H7 := Lib.hid (And.intro (H6.out.1.bank g7 k7) (And.intro d7 (And.intro b7 (And.intro (H6.out.2.2.2.1.trans g7) (H6.out.2.2.2.2.gr g7 (by simp only [List.mem_append, not_or]; exact ⟨HNB.out.2.1, HNB.out.1⟩))))))
  clear d7 b7 k7 g7 H6 HWw
  go_wp2_with fail
  go_ret
  obtain ⟨rfl, rfl, rfl⟩ := HSG.out
  exact ⟨rfl, H7.out.2.1, H7.out.2.2.1.mono (by omega), H7.out.1.moreN (by omega), H7.out.2.2.2.1.mono (fun b hb => List.mem_cons_of_mem _ hb)⟩
/-- Whatever comes of a move. -/
theorem rmove_any (h : RgIs w kb q a P B m j c) (hd : DevIs w a D) (hb : Bd D cc) (hcc : cc < 600000000) (hm : m < 80000000) (hj : j < 4294967295) (hn : (bankR P).a + sizeZ (bankR P) ≤ (D.n : Int)) (hn1 : (writeS (bankR P) (toI P j) (readR D (bankR P) B (fromI P j)).1 D B).2.1.n = D.n)
    (hR : (readR D (bankR P) B (fromI P j)).2 = 0) :
    Calls Tryz.prog 155 #[.pointer (some ⟨kb, 0, none⟩)] w fun e w' => e = .returned (.int .i64 (movZ P D B j).1) ∧ DevIs w' a (movZ P D B j).2.1 ∧ Bd (movZ P D B j).2.1 (cc + 2800) ∧ (if (movZ P D B j).1 = 0 then RgIs w' kb q a P (movZ P D B j).2.2 (m + 128) (j + 1) 0 else RgIs w' kb q a P (movZ P D B j).2.2 (m + 128) j c) ∧ Gr (kb :: (q.all ++ a.all)) w w' := by
  obtain ⟨⟨e1, D1, B1⟩, hX⟩ : ∃ X, writeS (bankR P) (toI P j) (readR D (bankR P) B (fromI P j)).1 D B = X := ⟨_, rfl⟩
  unfold movZ
  rw [hX] at hn1 ⊢
  simp only at hn1 ⊢
  by_cases he : e1 = 0
  · subst he
    simp only [if_true]
    obtain ⟨⟨e2, D2, B2⟩, hY⟩ : ∃ X, writeWordS (bankR P) ((P.l : Int) + 1) 0 (pkN P (j + 1)) D1 B1 = X := ⟨_, rfl⟩
    rw [hY]
    simp only
    by_cases he2 : e2 = 0
    · subst he2
      simp only [if_true]
      exact rmove_ok h hd hb hcc hm hj hn hn1 hR hX hY
    · simp only [if_neg he2]
      exact rmove_bad2 h hd hb hcc hm hj hn hn1 hR hX hY he2
  · simp only [if_neg he]
    exact rmove_bad1 h hd hb hcc hm hj hn hR hX he
end
section
variable {w w' : World} {kb : Nat} {q : BkA} {a : DevA} {P : PlanR} {B : BkS} {m j c cc : Nat} {D : DevS}
set_option maxRecDepth 100000 in
set_option maxHeartbeats 8000000 in
theorem change_w_st_bad {rc sc : Nat} (i : Nat) (s : ByteArray) {e3 : Int} {D3 : DevS} {B3 : BkS} (h : RgIs w kb q a P B m j c) (hd : DevIs w a D) (hb : Bd D cc) (hcc : cc < 500000000) (hm : m < 70000000) (hi : i < P.l) (hs : s.size ≤ maxLen) (r1 : w.cell? ⟨rc, 0, none⟩ = some (.pointer (some ⟨kb, 0, none⟩))) (s1 : w.cell? ⟨sc, 0, none⟩ = some (.string s)) (hrc : rc ∉ kb :: (q.all ++ a.all)) (hsc : sc ∉ kb :: (q.all ++ a.all))
    (hc : (c : Int) < P.psi) (hn : (bankR P).a + sizeZ (bankR P) ≤ (D.n : Int)) (hO : writeS (bankR P) (slotJ P j i) s D B = (e3, D3, B3)) (he3 : ¬ e3 = 0) :
    Calls Tryz.prog 131 #[.pointer (some ⟨kb, 0, none⟩), .int .i64 (i : Int), (.func (.func 132) #[] #[.pointer (some ⟨rc, 0, none⟩), .pointer (some ⟨sc, 0, none⟩)])] w fun e w' => e = .returned (.int .i64 e3) ∧ DevIs w' a D3 ∧ Bd D3 (cc + 4200) ∧ RgIs w' kb q a P B3 (m + 192) j c ∧ Gr (kb :: (q.all ++ a.all)) w w' := by
  have HNF := Lib.hid (show (bankR P).a + sizeZ (bankR P) ≤ (D.n : Int) from hn)
  have HF := Lib.hid (rfind_in i h hi)
  have HCl := Lib.hid (fun W (q1 : RgIs W kb q a P B m j c) (q2 : DevIs W a D) (q3 : Bd D cc) (q4 : W.cell? ⟨rc, 0, none⟩ = some (.pointer (some ⟨kb, 0, none⟩)) ∧ W.cell? ⟨sc, 0, none⟩ = some (.string s)) => show Calls Tryz.prog 132 #[.int .i64 (slotJ P j i), .pointer (some ⟨rc, 0, none⟩), .pointer (some ⟨sc, 0, none⟩)] W _ from wr1_any (slotJ P j i) s q1 q2 q3 (by omega) hs (by omega) q4.1 q4.2)
  rw [hO] at HCl
  have HSl := Lib.hid (fun W (q1 : RgIs W kb q a P B m j c) => rslot_any i q1 hi)
  have HKp := Lib.hid (show ∀ (W W' : World) (bs : List Nat), (W.cell? ⟨rc, 0, none⟩ = some (.pointer (some ⟨kb, 0, none⟩)) ∧ W.cell? ⟨sc, 0, none⟩ = some (.string s)) → Gr bs W W' → (∀ x ∈ bs, x ∈ kb :: (q.all ++ a.all)) → (W'.cell? ⟨rc, 0, none⟩ = some (.pointer (some ⟨kb, 0, none⟩)) ∧ W'.cell? ⟨sc, 0, none⟩ = some (.string s)) from fun W W' bs q g hbs => by
    have hrc := fun e => hrc (hbs _ e)
    have hsc := fun e => hsc (hbs _ e)
    exact ⟨(cell_gr7 g (World.block_lt_of_cell? _ _ q.1) hrc).trans q.1, (cell_gr7 g (World.block_lt_of_cell? _ _ q.2) hsc).trans q.2⟩)
  have HC0 := Lib.hid (show w.cell? ⟨rc, 0, none⟩ = some (.pointer (some ⟨kb, 0, none⟩)) ∧ w.cell? ⟨sc, 0, none⟩ = some (.string s) from ⟨r1, s1⟩)
  have c8 := h.c8
  have c3 := h.c3
  have H := Lib.hid (And.intro h (And.intro hd hb))
  have ik : ¬ (P.psi ≤ (c : Int)) := by omega
  have hc9 : c ≤ 65535 := by have := h.ok.p2; omega
  clear h hd hb hcc hm hi hc hn hO hs r1 s1 hrc hsc 
  generalize hZ : slotJ P j i = z at *
  clear hZ
  go_enter Tryz.func131, Tryz.ntmps131
  go_wp2_with fail
  refine HF.out.mono ?_
  rintro e w' ⟨rfl, rfl⟩
  go_wp2_with fail
  go_quiet (fail)
  have gq : Gr [] w' (w'.drewN nq) := (Gr.refl [] w').drewN nq
  have H1 := Lib.hid (And.intro (H.out.1.gr0 gq) (And.intro (H.out.2.1.gr0 gq) (And.intro H.out.2.2 (And.intro gq (HKp.out _ _ [] HC0.out gq (by simp))))))
  clear c8 c3 gq
  generalize w'.drewN nq = w1 at *
  go_wp2_with fail
  have H2 := Lib.hid (And.intro H1.out.1 (And.intro H1.out.2.1 (And.intro H1.out.2.2.1 (And.intro (H1.out.2.2.2.1.of0 (cs := kb :: (q.all ++ a.all))) H1.out.2.2.2.2))))
  clear H1
  generalize w1 = w2 at *
  refine (HSl.out _ H2.out.1).mono ?_
  rintro e w3 ⟨rfl, g3⟩
  have H3 := Lib.hid (And.intro (H2.out.1.gr0 g3) (And.intro (H2.out.2.1.gr0 g3) (And.intro H2.out.2.2.1 (And.intro (H2.out.2.2.2.1.next0 g3) (HKp.out _ _ [] H2.out.2.2.2.2 g3 (by simp))))))
  clear g3 H2
  go_wp2_with fail
  refine (HCl.out _ H3.out.1 H3.out.2.1 H3.out.2.2.1 H3.out.2.2.2.2).mono ?_
  rintro e w4 ⟨rfl, d4, b4, r4, g4⟩
  have H4 := Lib.hid (And.intro r4 (And.intro d4 (And.intro b4 (H3.out.2.2.2.1.trans (g4.mono (fun b hb => List.mem_cons_of_mem _ hb))))))
  clear d4 b4 r4 g4 H3
  go_wp2_with fail
  go_ret
  exact ⟨rfl, H4.out.2.1, H4.out.2.2.1.mono (by omega), H4.out.1.moreN (by omega), H4.out.2.2.2⟩
end
section
variable {w w' : World} {kb : Nat} {q : BkA} {a : DevA} {P : PlanR} {B : BkS} {m j c cc : Nat} {D : DevS}
set_option maxRecDepth 100000 in
set_option maxHeartbeats 8000000 in
theorem change_w_mv_bad {rc sc : Nat} (i : Nat) (s : ByteArray) {e3 : Int} {D1 D2 D3 : DevS} {B1 B2 B3 : BkS} (h : RgIs w kb q a P B m j c) (hd : DevIs w a D) (hb : Bd D cc) (hcc : cc < 500000000) (hm : m < 70000000) (hi : i < P.l) (hs : s.size ≤ maxLen) (r1 : w.cell? ⟨rc, 0, none⟩ = some (.pointer (some ⟨kb, 0, none⟩))) (s1 : w.cell? ⟨sc, 0, none⟩ = some (.string s)) (hrc : rc ∉ kb :: (q.all ++ a.all)) (hsc : sc ∉ kb :: (q.all ++ a.all))
    (hc : P.psi ≤ (c : Int)) (hj : j < 4294967295) (hn : (bankR P).a + sizeZ (bankR P) ≤ (D.n : Int)) (hn1 : D1.n = D.n) (hn2 : D2.n = D.n)
    (hR : (readR D (bankR P) B (fromI P j)).2 = 0) (hW : writeS (bankR P) (toI P j) (readR D (bankR P) B (fromI P j)).1 D B = (0, D1, B1)) (hV : writeWordS (bankR P) ((P.l : Int) + 1) 0 (pkN P (j + 1)) D1 B1 = (0, D2, B2)) (hO : writeS (bankR P) (slotJ P (j + 1) i) s D2 B2 = (e3, D3, B3)) (he3 : ¬ e3 = 0) :
    Calls Tryz.prog 131 #[.pointer (some ⟨kb, 0, none⟩), .int .i64 (i : Int), (.func (.func 132) #[] #[.pointer (some ⟨rc, 0, none⟩), .pointer (some ⟨sc, 0, none⟩)])] w fun e w' => e = .returned (.int .i64 e3) ∧ DevIs w' a D3 ∧ Bd D3 (cc + 4200) ∧ RgIs w' kb q a P B3 (m + 192) (j + 1) 0 ∧ Gr (kb :: (q.all ++ a.all)) w w' := by
  have HNF := Lib.hid (show (bankR P).a + sizeZ (bankR P) ≤ (D2.n : Int) by rw [hn2]; exact hn)
  have HF := Lib.hid (rfind_in i h hi)
  have HCl := Lib.hid (fun W (q1 : RgIs W kb q a P B2 (m + 128) (j + 1) 0) (q2 : DevIs W a D2) (q3 : Bd D2 (cc + 2800)) (q4 : W.cell? ⟨rc, 0, none⟩ = some (.pointer (some ⟨kb, 0, none⟩)) ∧ W.cell? ⟨sc, 0, none⟩ = some (.string s)) => show Calls Tryz.prog 132 #[.int .i64 (slotJ P (j + 1) i), .pointer (some ⟨rc, 0, none⟩), .pointer (some ⟨sc, 0, none⟩)] W _ from wr1_any (slotJ P (j + 1) i) s q1 q2 q3 (by omega) hs (by omega) q4.1 q4.2)
  rw [hO] at HCl
  have HSl := Lib.hid (fun W (q1 : RgIs W kb q a P B2 (m + 128) (j + 1) 0) => rslot_any i q1 hi)
  have HKp := Lib.hid (show ∀ (W W' : World) (bs : List Nat), (W.cell? ⟨rc, 0, none⟩ = some (.pointer (some ⟨kb, 0, none⟩)) ∧ W.cell? ⟨sc, 0, none⟩ = some (.string s)) → Gr bs W W' → (∀ x ∈ bs, x ∈ kb :: (q.all ++ a.all)) → (W'.cell? ⟨rc, 0, none⟩ = some (.pointer (some ⟨kb, 0, none⟩)) ∧ W'.cell? ⟨sc, 0, none⟩ = some (.string s)) from fun W W' bs q g hbs => by
    have hrc := fun e => hrc (hbs _ e)
    have hsc := fun e => hsc (hbs _ e)
    exact ⟨(cell_gr7 g (World.block_lt_of_cell? _ _ q.1) hrc).trans q.1, (cell_gr7 g (World.block_lt_of_cell? _ _ q.2) hsc).trans q.2⟩)
  have HC0 := Lib.hid (show w.cell? ⟨rc, 0, none⟩ = some (.pointer (some ⟨kb, 0, none⟩)) ∧ w.cell? ⟨sc, 0, none⟩ = some (.string s) from ⟨r1, s1⟩)
  have c8 := h.c8
  have c3 := h.c3
  have H := Lib.hid (And.intro h (And.intro hd hb))
  have HMv := Lib.hid (fun W (g : Gr [] w W) => rmove_ok (h.gr0 g) (hd.gr0 g) hb (by omega) (by omega) hj hn hn1 hR hW hV)
  have ik : P.psi ≤ (c : Int) := hc
  clear h hd hb hcc hm hi hc hn hO hs r1 s1 hrc hsc hj hn1 hn2 hR hW hV
  generalize hZ : slotJ P (j + 1) i = z at *
  clear hZ
  go_enter Tryz.func131, Tryz.ntmps131
  go_wp2_with fail
  refine HF.out.mono ?_
  rintro e w' ⟨rfl, rfl⟩
  go_wp2_with fail
  go_quiet (fail)
  have gq : Gr [] w' (w'.drewN nq) := (Gr.refl [] w').drewN nq
  have H1 := Lib.hid (And.intro (H.out.1.gr0 gq) (And.intro (H.out.2.1.gr0 gq) (And.intro H.out.2.2 (And.intro gq (HKp.out _ _ [] HC0.out gq (by simp))))))
  clear c8 c3 gq
  generalize w'.drewN nq = w1 at *
  go_wp2_with fail
  refine (HMv.out _ H1.out.2.2.2.1).mono ?_
  rintro e w2 ⟨rfl, d2, b2, r2, g2⟩
  have H2 := Lib.hid (And.intro r2 (And.intro d2 (And.intro b2 (And.intro ((H1.out.2.2.2.1.of0 (cs := kb :: (q.all ++ a.all))).trans g2) (HKp.out _ _ _ H1.out.2.2.2.2 g2 (fun x hx => hx))))))
  clear d2 b2 r2 g2 H1 HMv
  go_wp2_with fail
  refine (HSl.out _ H2.out.1).mono ?_
  rintro e w3 ⟨rfl, g3⟩
  have H3 := Lib.hid (And.intro (H2.out.1.gr0 g3) (And.intro (H2.out.2.1.gr0 g3) (And.intro H2.out.2.2.1 (And.intro (H2.out.2.2.2.1.next0 g3) (HKp.out _ _ [] H2.out.2.2.2.2 g3 (by simp))))))
  clear g3 H2
  go_wp2_with fail
  refine (HCl.out _ H3.out.1 H3.out.2.1 H3.out.2.2.1 H3.out.2.2.2.2).mono ?_
  rintro e w4 ⟨rfl, d4, b4, r4, g4⟩
  have H4 := Lib.hid (And.intro r4 (And.intro d4 (And.intro b4 (H3.out.2.2.2.1.trans (g4.mono (fun b hb => List.mem_cons_of_mem _ hb))))))
  clear d4 b4 r4 g4 H3
  go_wp2_with fail
  go_ret
  exact ⟨rfl, H4.out.2.1, H4.out.2.2.1.mono (by omega), H4.out.1.moreN (by omega), H4.out.2.2.2⟩
end
section
variable {w w' : World} {kb : Nat} {q : BkA} {a : DevA} {P : PlanR} {B : BkS} {m j c cc : Nat} {D : DevS}
set_option maxRecDepth 100000 in
set_option maxHeartbeats 8000000 in
theorem change_ww_st_bad {rc sk sv : Nat} (i : Nat) (k : Int) (v : Nat) {e3 : Int} {D3 : DevS} {B3 : BkS} (h : RgIs w kb q a P B m j c) (hd : DevIs w a D) (hb : Bd D cc) (hcc : cc < 500000000) (hm : m < 70000000) (hi : i < P.l) (hv : v < 18446744073709551616) (r1 : w.cell? ⟨rc, 0, none⟩ = some (.pointer (some ⟨kb, 0, none⟩))) (s1 : w.cell? ⟨sk, 0, none⟩ = some (.int .i64 k)) (s2 : w.cell? ⟨sv, 0, none⟩ = some (.int .u64 (v : Int))) (hrc : rc ∉ kb :: (q.all ++ a.all)) (hsk : sk ∉ kb :: (q.all ++ a.all)) (hsv : sv ∉ kb :: (q.all ++ a.all))
    (hc : (c : Int) < P.psi) (hn : (bankR P).a + sizeZ (bankR P) ≤ (D.n : Int)) (hO : writeWordS (bankR P) (slotJ P j i) k v D B = (e3, D3, B3)) (he3 : ¬ e3 = 0) :
    Calls Tryz.prog 131 #[.pointer (some ⟨kb, 0, none⟩), .int .i64 (i : Int), (.func (.func 134) #[] #[.pointer (some ⟨rc, 0, none⟩), .pointer (some ⟨sk, 0, none⟩), .pointer (some ⟨sv, 0, none⟩)])] w fun e w' => e = .returned (.int .i64 e3) ∧ DevIs w' a D3 ∧ Bd D3 (cc + 4200) ∧ RgIs w' kb q a P B3 (m + 192) j c ∧ Gr (kb :: (q.all ++ a.all)) w w' := by
  have HNF := Lib.hid (show (bankR P).a + sizeZ (bankR P) ≤ (D.n : Int) from hn)
  have HF := Lib.hid (rfind_in i h hi)
  have HCl := Lib.hid (fun W (q1 : RgIs W kb q a P B m j c) (q2 : DevIs W a D) (q3 : Bd D cc) (q4 : W.cell? ⟨rc, 0, none⟩ = some (.pointer (some ⟨kb, 0, none⟩)) ∧ W.cell? ⟨sk, 0, none⟩ = some (.int .i64 k) ∧ W.cell? ⟨sv, 0, none⟩ = some (.int .u64 (v : Int))) => show Calls Tryz.prog 134 #[.int .i64 (slotJ P j i), .pointer (some ⟨rc, 0, none⟩), .pointer (some ⟨sk, 0, none⟩), .pointer (some ⟨sv, 0, none⟩)] W _ from ww1_any (slotJ P j i) k v q1 q2 q3 (by omega) hv HNF.out (by omega) q4.1 q4.2.1 q4.2.2)
  rw [hO] at HCl
  have HSl := Lib.hid (fun W (q1 : RgIs W kb q a P B m j c) => rslot_any i q1 hi)
  have HKp := Lib.hid (show ∀ (W W' : World) (bs : List Nat), (W.cell? ⟨rc, 0, none⟩ = some (.pointer (some ⟨kb, 0, none⟩)) ∧ W.cell? ⟨sk, 0, none⟩ = some (.int .i64 k) ∧ W.cell? ⟨sv, 0, none⟩ = some (.int .u64 (v : Int))) → Gr bs W W' → (∀ x ∈ bs, x ∈ kb :: (q.all ++ a.all)) → (W'.cell? ⟨rc, 0, none⟩ = some (.pointer (some ⟨kb, 0, none⟩)) ∧ W'.cell? ⟨sk, 0, none⟩ = some (.int .i64 k) ∧ W'.cell? ⟨sv, 0, none⟩ = some (.int .u64 (v : Int))) from fun W W' bs q g hbs => by
    have hrc := fun e => hrc (hbs _ e)
    have hsk := fun e => hsk (hbs _ e)
    have hsv := fun e => hsv (hbs _ e)
    exact ⟨(cell_gr7 g (World.block_lt_of_cell? _ _ q.1) hrc).trans q.1, (cell_gr7 g (World.block_lt_of_cell? _ _ q.2.1) hsk).trans q.2.1, (cell_gr7 g (World.block_lt_of_cell? _ _ q.2.2) hsv).trans q.2.2⟩)
  have HC0 := Lib.hid (show w.cell? ⟨rc, 0, none⟩ = some (.pointer (some ⟨kb, 0, none⟩)) ∧ w.cell? ⟨sk, 0, none⟩ = some (.int .i64 k) ∧ w.cell? ⟨sv, 0, none⟩ = some (.int .u64 (v : Int)) from ⟨r1, s1, s2⟩)
  have c8 := h.c8
  have c3 := h.c3
  have H := Lib.hid (And.intro h (And.intro hd hb))
  have ik : ¬ (P.psi ≤ (c : Int)) := by omega
  have hc9 : c ≤ 65535 := by have := h.ok.p2; omega
  clear h hd hb hcc hm hi hc hn hO hv r1 s1 s2 hrc hsk hsv 
  generalize hZ : slotJ P j i = z at *
  clear hZ
  go_enter Tryz.func131, Tryz.ntmps131
  go_wp2_with fail
  refine HF.out.mono ?_
  rintro e w' ⟨rfl, rfl⟩
  go_wp2_with fail
  go_quiet (fail)
  have gq : Gr [] w' (w'.drewN nq) := (Gr.refl [] w').drewN nq
  have H1 := Lib.hid (And.intro (H.out.1.gr0 gq) (And.intro (H.out.2.1.gr0 gq) (And.intro H.out.2.2 (And.intro gq (HKp.out _ _ [] HC0.out gq (by simp))))))
  clear c8 c3 gq
  generalize w'.drewN nq = w1 at *
  go_wp2_with fail
  have H2 := Lib.hid (And.intro H1.out.1 (And.intro H1.out.2.1 (And.intro H1.out.2.2.1 (And.intro (H1.out.2.2.2.1.of0 (cs := kb :: (q.all ++ a.all))) H1.out.2.2.2.2))))
  clear H1
  generalize w1 = w2 at *
  refine (HSl.out _ H2.out.1).mono ?_
  rintro e w3 ⟨rfl, g3⟩
  have H3 := Lib.hid (And.intro (H2.out.1.gr0 g3) (And.intro (H2.out.2.1.gr0 g3) (And.intro H2.out.2.2.1 (And.intro (H2.out.2.2.2.1.next0 g3) (HKp.out _ _ [] H2.out.2.2.2.2 g3 (by simp))))))
  clear g3 H2
  go_wp2_with fail
  refine (HCl.out _ H3.out.1 H3.out.2.1 H3.out.2.2.1 H3.out.2.2.2.2).mono ?_
  rintro e w4 ⟨rfl, d4, b4, r4, g4⟩
  have H4 := Lib.hid (And.intro r4 (And.intro d4 (And.intro b4 (H3.out.2.2.2.1.trans (g4.mono (fun b hb => List.mem_cons_of_mem _ hb))))))
  clear d4 b4 r4 g4 H3
  go_wp2_with fail
  go_ret
  exact ⟨rfl, H4.out.2.1, H4.out.2.2.1.mono (by omega), H4.out.1.moreN (by omega), H4.out.2.2.2⟩
end
section
variable {w w' : World} {kb : Nat} {q : BkA} {a : DevA} {P : PlanR} {B : BkS} {m j c cc : Nat} {D : DevS}
set_option maxRecDepth 100000 in
set_option maxHeartbeats 8000000 in
theorem change_ww_mv_bad {rc sk sv : Nat} (i : Nat) (k : Int) (v : Nat) {e3 : Int} {D1 D2 D3 : DevS} {B1 B2 B3 : BkS} (h : RgIs w kb q a P B m j c) (hd : DevIs w a D) (hb : Bd D cc) (hcc : cc < 500000000) (hm : m < 70000000) (hi : i < P.l) (hv : v < 18446744073709551616) (r1 : w.cell? ⟨rc, 0, none⟩ = some (.pointer (some ⟨kb, 0, none⟩))) (s1 : w.cell? ⟨sk, 0, none⟩ = some (.int .i64 k)) (s2 : w.cell? ⟨sv, 0, none⟩ = some (.int .u64 (v : Int))) (hrc : rc ∉ kb :: (q.all ++ a.all)) (hsk : sk ∉ kb :: (q.all ++ a.all)) (hsv : sv ∉ kb :: (q.all ++ a.all))
    (hc : P.psi ≤ (c : Int)) (hj : j < 4294967295) (hn : (bankR P).a + sizeZ (bankR P) ≤ (D.n : Int)) (hn1 : D1.n = D.n) (hn2 : D2.n = D.n)
    (hR : (readR D (bankR P) B (fromI P j)).2 = 0) (hW : writeS (bankR P) (toI P j) (readR D (bankR P) B (fromI P j)).1 D B = (0, D1, B1)) (hV : writeWordS (bankR P) ((P.l : Int) + 1) 0 (pkN P (j + 1)) D1 B1 = (0, D2, B2)) (hO : writeWordS (bankR P) (slotJ P (j + 1) i) k v D2 B2 = (e3, D3, B3)) (he3 : ¬ e3 = 0) :
    Calls Tryz.prog 131 #[.pointer (some ⟨kb, 0, none⟩), .int .i64 (i : Int), (.func (.func 134) #[] #[.pointer (some ⟨rc, 0, none⟩), .pointer (some ⟨sk, 0, none⟩), .pointer (some ⟨sv, 0, none⟩)])] w fun e w' => e = .returned (.int .i64 e3) ∧ DevIs w' a D3 ∧ Bd D3 (cc + 4200) ∧ RgIs w' kb q a P B3 (m + 192) (j + 1) 0 ∧ Gr (kb :: (q.all ++ a.all)) w w' := by
  have HNF := Lib.hid (show (bankR P).a + sizeZ (bankR P) ≤ (D2.n : Int) by rw [hn2]; exact hn)
  have HF := Lib.hid (rfind_in i h hi)
  have HCl := Lib.hid (fun W (q1 : RgIs W kb q a P B2 (m + 128) (j + 1) 0) (q2 : DevIs W a D2) (q3 : Bd D2 (cc + 2800)) (q4 : W.cell? ⟨rc, 0, none⟩ = some (.pointer (some ⟨kb, 0, none⟩)) ∧ W.cell? ⟨sk, 0, none⟩ = some (.int .i64 k) ∧ W.cell? ⟨sv, 0, none⟩ = some (.int .u64 (v : Int))) => show Calls Tryz.prog 134 #[.int .i64 (slotJ P (j + 1) i), .pointer (some ⟨rc, 0, none⟩), .pointer (some ⟨sk, 0, none⟩), .pointer (some ⟨sv, 0, none⟩)] W _ from ww1_any (slotJ P (j + 1) i) k v q1 q2 q3 (by omega) hv HNF.out (by omega) q4.1 q4.2.1 q4.2.2)
  rw [hO] at HCl
  have HSl := Lib.hid (fun W (q1 : RgIs W kb q a P B2 (m + 128) (j + 1) 0) => rslot_any i q1 hi)
  have HKp := Lib.hid (show ∀ (W W' : World) (bs : List Nat), (W.cell? ⟨rc, 0, none⟩ = some (.pointer (some ⟨kb, 0, none⟩)) ∧ W.cell? ⟨sk, 0, none⟩ = some (.int .i64 k) ∧ W.cell? ⟨sv, 0, none⟩ = some (.int .u64 (v : Int))) → Gr bs W W' → (∀ x ∈ bs, x ∈ kb :: (q.all ++ a.all)) → (W'.cell? ⟨rc, 0, none⟩ = some (.pointer (some ⟨kb, 0, none⟩)) ∧ W'.cell? ⟨sk, 0, none⟩ = some (.int .i64 k) ∧ W'.cell? ⟨sv, 0, none⟩ = some (.int .u64 (v : Int))) from fun W W' bs q g hbs => by
    have hrc := fun e => hrc (hbs _ e)
    have hsk := fun e => hsk (hbs _ e)
    have hsv := fun e => hsv (hbs _ e)
    exact ⟨(cell_gr7 g (World.block_lt_of_cell? _ _ q.1) hrc).trans q.1, (cell_gr7 g (World.block_lt_of_cell? _ _ q.2.1) hsk).trans q.2.1, (cell_gr7 g (World.block_lt_of_cell? _ _ q.2.2) hsv).trans q.2.2⟩)
  have HC0 := Lib.hid (show w.cell? ⟨rc, 0, none⟩ = some (.pointer (some ⟨kb, 0, none⟩)) ∧ w.cell? ⟨sk, 0, none⟩ = some (.int .i64 k) ∧ w.cell? ⟨sv, 0, none⟩ = some (.int .u64 (v : Int)) from ⟨r1, s1, s2⟩)
  have c8 := h.c8
  have c3 := h.c3
  have H := Lib.hid (And.intro h (And.intro hd hb))
  have HMv := Lib.hid (fun W (g : Gr [] w W) => rmove_ok (h.gr0 g) (hd.gr0 g) hb (by omega) (by omega) hj hn hn1 hR hW hV)
  have ik : P.psi ≤ (c : Int) := hc
  clear h hd hb hcc hm hi hc hn hO hv r1 s1 s2 hrc hsk hsv hj hn1 hn2 hR hW hV
  generalize hZ : slotJ P (j + 1) i = z at *
  clear hZ
  go_enter Tryz.func131, Tryz.ntmps131
  go_wp2_with fail
  refine HF.out.mono ?_
  rintro e w' ⟨rfl, rfl⟩
  go_wp2_with fail
  go_quiet (fail)
  have gq : Gr [] w' (w'.drewN nq) := (Gr.refl [] w').drewN nq
  have H1 := Lib.hid (And.intro (H.out.1.gr0 gq) (And.intro (H.out.2.1.gr0 gq) (And.intro H.out.2.2 (And.intro gq (HKp.out _ _ [] HC0.out gq (by simp))))))
  clear c8 c3 gq
  generalize w'.drewN nq = w1 at *
  go_wp2_with fail
  refine (HMv.out _ H1.out.2.2.2.1).mono ?_
  rintro e w2 ⟨rfl, d2, b2, r2, g2⟩
  have H2 := Lib.hid (And.intro r2 (And.intro d2 (And.intro b2 (And.intro ((H1.out.2.2.2.1.of0 (cs := kb :: (q.all ++ a.all))).trans g2) (HKp.out _ _ _ H1.out.2.2.2.2 g2 (fun x hx => hx))))))
  clear d2 b2 r2 g2 H1 HMv
  go_wp2_with fail
  refine (HSl.out _ H2.out.1).mono ?_
  rintro e w3 ⟨rfl, g3⟩
  have H3 := Lib.hid (And.intro (H2.out.1.gr0 g3) (And.intro (H2.out.2.1.gr0 g3) (And.intro H2.out.2.2.1 (And.intro (H2.out.2.2.2.1.next0 g3) (HKp.out _ _ [] H2.out.2.2.2.2 g3 (by simp))))))
  clear g3 H2
  go_wp2_with fail
  refine (HCl.out _ H3.out.1 H3.out.2.1 H3.out.2.2.1 H3.out.2.2.2.2).mono ?_
  rintro e w4 ⟨rfl, d4, b4, r4, g4⟩
  have H4 := Lib.hid (And.intro r4 (And.intro d4 (And.intro b4 (H3.out.2.2.2.1.trans (g4.mono (fun b hb => List.mem_cons_of_mem _ hb))))))
  clear d4 b4 r4 g4 H3
  go_wp2_with fail
  go_ret
  exact ⟨rfl, H4.out.2.1, H4.out.2.2.1.mono (by omega), H4.out.1.moreN (by omega), H4.out.2.2.2⟩
end
section
variable {w w' : World} {kb : Nat} {q : BkA} {a : DevA} {P : PlanR} {B : BkS} {m j c cc : Nat} {D : DevS}
set_option maxRecDepth 100000 in
set_option maxHeartbeats 8000000 in
theorem change_mvbad (i : Nat) (fv : Value) (h : RgIs w kb q a P B m j c) (hd : DevIs w a D) (hb : Bd D cc) (hcc : cc < 500000000) (hm : m < 70000000) (hi : i < P.l) (hc : P.psi ≤ (c : Int)) (hj : j < 4294967295) (hn : (bankR P).a + sizeZ (bankR P) ≤ (D.n : Int)) (hn1 : (writeS (bankR P) (toI P j) (readR D (bankR P) B (fromI P j)).1 D B).2.1.n = D.n)
    (hR : (readR D (bankR P) B (fromI P j)).2 = 0) (hM : ¬ (movZ P D B j).1 = 0) :
    Calls Tryz.prog 131 #[.pointer (some ⟨kb, 0, none⟩), .int .i64 (i : Int), fv] w fun e w' => e = .returned (.int .i64 (movZ P D B j).1) ∧ DevIs w' a (movZ P D B j).2.1 ∧ Bd (movZ P D B j).2.1 (cc + 4200) ∧ RgIs w' kb q a P (movZ P D B j).2.2 (m + 192) j c ∧ Gr (kb :: (q.all ++ a.all)) w w' := by
  have HF := Lib.hid (rfind_in i h hi)
  have HMv := Lib.hid (fun W (g : Gr [] w W) => rmove_any (h.gr0 g) (hd.gr0 g) hb (by omega) (by omega) hj hn hn1 hR)
  have c8 := h.c8
  have c3 := h.c3
  have ik : P.psi ≤ (c : Int) := hc
  have hc9 : (c : Int) ≤ 65535 ∨ True := .inr trivial
  obtain ⟨e9, he9⟩ : ∃ e9, (movZ P D B j).1 = e9 := ⟨_, rfl⟩
  rw [he9] at HMv hM ⊢
  clear h hd hb hcc hm hi hc hj hn hn1 hR hc9 he9
  go_enter Tryz.func131, Tryz.ntmps131
  go_wp2_with fail
  refine HF.out.mono ?_
  rintro e w' ⟨rfl, rfl⟩
  go_wp2_with fail
  go_quiet (fail)
  have gq := Lib.hid ((Gr.refl [] w').drewN nq)
  clear c8 c3
  generalize w'.drewN nq = w1 at *
  go_wp2_with fail
  refine (HMv.out _ gq.out).mono ?_
  rintro e w2 ⟨rfl, d2, b2, r2, g2⟩
  rw [if_neg hM] at r2
  have H2 := Lib.hid (And.intro d2 (And.intro b2 (And.intro r2 ((gq.out.of0 (cs := kb :: (q.all ++ a.all))).trans g2))))
  clear d2 b2 r2 g2
  go_wp2_with fail
  go_ret
  exact ⟨rfl, H2.out.1, H2.out.2.1.mono (by omega), H2.out.2.2.1.moreN (by omega), H2.out.2.2.2⟩
end
section
variable {w w' : World} {kb : Nat} {q : BkA} {a : DevA} {P : PlanR} {B : BkS} {m j c cc : Nat} {D : DevS}
set_option maxRecDepth 100000 in
set_option maxHeartbeats 8000000 in
theorem rgwrite_st_bad (i : Nat) (s : ByteArray) {e3 : Int} {D3 : DevS} {B3 : BkS} (h : RgIs w kb q a P B m j c) (hd : DevIs w a D) (hb : Bd D cc) (hcc : cc < 500000000) (hm : m < 70000000) (hi : i < P.l) (hs : s.size = 64)
    (hc : (c : Int) < P.psi) (hn : (bankR P).a + sizeZ (bankR P) ≤ (D.n : Int)) (hO : writeS (bankR P) (slotJ P j i) s D B = (e3, D3, B3)) (he3 : ¬ e3 = 0) :
    Calls Tryz.prog 98 #[.pointer (some ⟨kb, 0, none⟩), .int .i64 (i : Int), .string s] w fun e w' => e = .returned (.int .i64 e3) ∧ DevIs w' a D3 ∧ Bd D3 (cc + 4200) ∧ RgIs w' kb q a P B3 (m + 192) j c ∧ Gr (kb :: (q.all ++ a.all)) w w' := by
  have hs64 : s.size = 64 := hs
  have HB := Lib.hid (And.intro ((Holds.new w #[.pointer (some ⟨kb, 0, none⟩)] 104).gr0 ((Gr.refl [] _).alloc (Obj.cells #[.string s] 9))) (Holds.new (w.alloc (Obj.cells #[.pointer (some ⟨kb, 0, none⟩)] 104)) #[.string s] 9))
  have g1 : Gr [] w ((w.alloc (Obj.cells #[.pointer (some ⟨kb, 0, none⟩)] 104)).alloc (Obj.cells #[.string s] 9)) := (((Gr.refl [] w).alloc _).alloc _)
  have HLT := Lib.hid (show ∀ x, w.heap.size ≤ x → x ∉ kb :: (q.all ++ a.all) from fun x hx hy => by
    rcases List.mem_cons.1 hy with rfl | hy
    · have := h.head.lt; omega
    · rcases List.mem_append.1 hy with hy | hy
      · have := h.bk.lt _ hy; omega
      · have := hd.lt _ hy; omega)
  obtain ⟨w1, hw1⟩ : ∃ w1, w1 = ((w.alloc (Obj.cells #[.pointer (some ⟨kb, 0, none⟩)] 104)).alloc (Obj.cells #[.string s] 9)) := ⟨_, rfl⟩
  rw [← hw1] at HB g1
  simp only [World.size_alloc] at HB
  have HCh := Lib.hid (change_w_st_bad i s (h.gr0 g1) (hd.gr0 g1) hb hcc hm hi (by rw [hs]; unfold maxLen; omega) (HB.out.1.cell 0) (HB.out.2.cell 0) (HLT.out _ (by omega)) (HLT.out _ (by omega)) hc hn hO he3)
  have e0 : w1.cell? ⟨w.heap.size, 0, none⟩ = some (.pointer (some ⟨kb, 0, none⟩)) := HB.out.1.cell 0
  have e1 : w1.cell? ⟨w.heap.size + 1, 0, none⟩ = some (.string s) := HB.out.2.cell 0
  have HG1 := Lib.hid g1
  clear h hd hb hcc hm hi hs g1 hc hn hO
  go_enter Tryz.func98, Tryz.ntmps98
  go_upto_region 1 with fail
  rw [← hw1]
  clear hw1
  go_wp2_with fail
  refine HCh.out.mono ?_
  rintro e w2 ⟨rfl, d2, b2, r2, g2⟩
  have H2 := Lib.hid (And.intro d2 (And.intro b2 (And.intro r2 ((HG1.out.of0 (cs := kb :: (q.all ++ a.all))).trans g2))))
  clear d2 b2 r2 g2
  go_wp2_with fail
  go_ret
  exact ⟨rfl, H2.out.1, H2.out.2.1, H2.out.2.2.1, H2.out.2.2.2⟩
end
section
variable {w w' : World} {kb : Nat} {q : BkA} {a : DevA} {P : PlanR} {B : BkS} {m j c cc : Nat} {D : DevS}
set_option maxRecDepth 100000 in
set_option maxHeartbeats 8000000 in
theorem rgwrite_mv_bad (i : Nat) (s : ByteArray) {e3 : Int} {D1 D2 D3 : DevS} {B1 B2 B3 : BkS} (h : RgIs w kb q a P B m j c) (hd : DevIs w a D) (hb : Bd D cc) (hcc : cc < 500000000) (hm : m < 70000000) (hi : i < P.l) (hs : s.size = 64)
    (hc : P.psi ≤ (c : Int)) (hj : j < 4294967295) (hn : (bankR P).a + sizeZ (bankR P) ≤ (D.n : Int)) (hn1 : D1.n = D.n) (hn2 : D2.n = D.n)
    (hR : (readR D (bankR P) B (fromI P j)).2 = 0) (hW : writeS (bankR P) (toI P j) (readR D (bankR P) B (fromI P j)).1 D B = (0, D1, B1)) (hV : writeWordS (bankR P) ((P.l : Int) + 1) 0 (pkN P (j + 1)) D1 B1 = (0, D2, B2)) (hO : writeS (bankR P) (slotJ P (j + 1) i) s D2 B2 = (e3, D3, B3)) (he3 : ¬ e3 = 0) :
    Calls Tryz.prog 98 #[.pointer (some ⟨kb, 0, none⟩), .int .i64 (i : Int), .string s] w fun e w' => e = .returned (.int .i64 e3) ∧ DevIs w' a D3 ∧ Bd D3 (cc + 4200) ∧ RgIs w' kb q a P B3 (m + 192) (j + 1) 0 ∧ Gr (kb :: (q.all ++ a.all)) w w' := by
  have hs64 : s.size = 64 := hs
  have HB := Lib.hid (And.intro ((Holds.new w #[.pointer (some ⟨kb, 0, none⟩)] 104).gr0 ((Gr.refl [] _).alloc (Obj.cells #[.string s] 9))) (Holds.new (w.alloc (Obj.cells #[.pointer (some ⟨kb, 0, none⟩)] 104)) #[.string s] 9))
  have g1 : Gr [] w ((w.alloc (Obj.cells #[.pointer (some ⟨kb, 0, none⟩)] 104)).alloc (Obj.cells #[.string s] 9)) := (((Gr.refl [] w).alloc _).alloc _)
  have HLT := Lib.hid (show ∀ x, w.heap.size ≤ x → x ∉ kb :: (q.all ++ a.all) from fun x hx hy => by
    rcases List.mem_cons.1 hy with rfl | hy
    · have := h.head.lt; omega
    · rcases List.mem_append.1 hy with hy | hy
      · have := h.bk.lt _ hy; omega
      · have := hd.lt _ hy; omega)
  obtain ⟨w1, hw1⟩ : ∃ w1, w1 = ((w.alloc (Obj.cells #[.pointer (some ⟨kb, 0, none⟩)] 104)).alloc (Obj.cells #[.string s] 9)) := ⟨_, rfl⟩
  rw [← hw1] at HB g1
  simp only [World.size_alloc] at HB
  have HCh := Lib.hid (change_w_mv_bad i s (h.gr0 g1) (hd.gr0 g1) hb hcc hm hi (by rw [hs]; unfold maxLen; omega) (HB.out.1.cell 0) (HB.out.2.cell 0) (HLT.out _ (by omega)) (HLT.out _ (by omega)) hc hj hn hn1 hn2 hR hW hV hO he3)
  have e0 : w1.cell? ⟨w.heap.size, 0, none⟩ = some (.pointer (some ⟨kb, 0, none⟩)) := HB.out.1.cell 0
  have e1 : w1.cell? ⟨w.heap.size + 1, 0, none⟩ = some (.string s) := HB.out.2.cell 0
  have HG1 := Lib.hid g1
  clear h hd hb hcc hm hi hs g1 hc hj hn hn1 hn2 hR hW hV hO
  go_enter Tryz.func98, Tryz.ntmps98
  go_upto_region 1 with fail
  rw [← hw1]
  clear hw1
  go_wp2_with fail
  refine HCh.out.mono ?_
  rintro e w2 ⟨rfl, d2, b2, r2, g2⟩
  have H2 := Lib.hid (And.intro d2 (And.intro b2 (And.intro r2 ((HG1.out.of0 (cs := kb :: (q.all ++ a.all))).trans g2))))
  clear d2 b2 r2 g2
  go_wp2_with fail
  go_ret
  exact ⟨rfl, H2.out.1, H2.out.2.1, H2.out.2.2.1, H2.out.2.2.2⟩
end
section
variable {w w' : World} {kb : Nat} {q : BkA} {a : DevA} {P : PlanR} {B : BkS} {m j c cc : Nat} {D : DevS}
set_option maxRecDepth 100000 in
set_option maxHeartbeats 8000000 in
theorem rgwrite_mvbad (i : Nat) (s : ByteArray) (h : RgIs w kb q a P B m j c) (hd : DevIs w a D) (hb : Bd D cc) (hcc : cc < 500000000) (hm : m < 70000000) (hi : i < P.l) (hs : s.size = 64)
    (hc : P.psi ≤ (c : Int)) (hj : j < 4294967295) (hn : (bankR P).a + sizeZ (bankR P) ≤ (D.n : Int)) (hn1 : (writeS (bankR P) (toI P j) (readR D (bankR P) B (fromI P j)).1 D B).2.1.n = D.n)
    (hR : (readR D (bankR P) B (fromI P j)).2 = 0) (hM : ¬ (movZ P D B j).1 = 0) :
    Calls Tryz.prog 98 #[.pointer (some ⟨kb, 0, none⟩), .int .i64 (i : Int), .string s] w fun e w' => e = .returned (.int .i64 (movZ P D B j).1) ∧ DevIs w' a (movZ P D B j).2.1 ∧ Bd (movZ P D B j).2.1 (cc + 4200) ∧ RgIs w' kb q a P (movZ P D B j).2.2 (m + 192) j c ∧ Gr (kb :: (q.all ++ a.all)) w w' := by
  have hs64 : s.size = 64 := hs
  have HB := Lib.hid (And.intro ((Holds.new w #[.pointer (some ⟨kb, 0, none⟩)] 104).gr0 ((Gr.refl [] _).alloc (Obj.cells #[.string s] 9))) (Holds.new (w.alloc (Obj.cells #[.pointer (some ⟨kb, 0, none⟩)] 104)) #[.string s] 9))
  have g1 : Gr [] w ((w.alloc (Obj.cells #[.pointer (some ⟨kb, 0, none⟩)] 104)).alloc (Obj.cells #[.string s] 9)) := (((Gr.refl [] w).alloc _).alloc _)
  have HLT := Lib.hid (show ∀ x, w.heap.size ≤ x → x ∉ kb :: (q.all ++ a.all) from fun x hx hy => by
    rcases List.mem_cons.1 hy with rfl | hy
    · have := h.head.lt; omega
    · rcases List.mem_append.1 hy with hy | hy
      · have := h.bk.lt _ hy; omega
      · have := hd.lt _ hy; omega)
  obtain ⟨w1, hw1⟩ : ∃ w1, w1 = ((w.alloc (Obj.cells #[.pointer (some ⟨kb, 0, none⟩)] 104)).alloc (Obj.cells #[.string s] 9)) := ⟨_, rfl⟩
  rw [← hw1] at HB g1
  simp only [World.size_alloc] at HB
  have HCh := Lib.hid (fun fv => change_mvbad i fv (h.gr0 g1) (hd.gr0 g1) hb hcc hm hi hc hj hn hn1 hR hM)
  have e0 : w1.cell? ⟨w.heap.size, 0, none⟩ = some (.pointer (some ⟨kb, 0, none⟩)) := HB.out.1.cell 0
  have e1 : w1.cell? ⟨w.heap.size + 1, 0, none⟩ = some (.string s) := HB.out.2.cell 0
  have HG1 := Lib.hid g1
  clear h hd hb hcc hm hi hs g1 hc hj hn hn1 hR hM
  go_enter Tryz.func98, Tryz.ntmps98
  go_upto_region 1 with fail
  rw [← hw1]
  clear hw1
  go_wp2_with fail
  refine (HCh.out _).mono ?_
  rintro e w2 ⟨rfl, d2, b2, r2, g2⟩
  have H2 := Lib.hid (And.intro d2 (And.intro b2 (And.intro r2 ((HG1.out.of0 (cs := kb :: (q.all ++ a.all))).trans g2))))
  clear d2 b2 r2 g2
  go_wp2_with fail
  go_ret
  exact ⟨rfl, H2.out.1, H2.out.2.1, H2.out.2.2.1, H2.out.2.2.2⟩
end
section
variable {w w' : World} {kb : Nat} {q : BkA} {a : DevA} {P : PlanR} {B : BkS} {m j c cc : Nat} {D : DevS}
set_option maxRecDepth 100000 in
set_option maxHeartbeats 8000000 in
theorem rgww_st_bad (i k v : Nat) {e3 : Int} {D3 : DevS} {B3 : BkS} (h : RgIs w kb q a P B m j c) (hd : DevIs w a D) (hb : Bd D cc) (hcc : cc < 500000000) (hm : m < 70000000) (hi : i < P.l) (hk : k < 8) (hv : v < 18446744073709551616)
    (hc : (c : Int) < P.psi) (hn : (bankR P).a + sizeZ (bankR P) ≤ (D.n : Int)) (hO : writeWordS (bankR P) (slotJ P j i) (k : Int) v D B = (e3, D3, B3)) (he3 : ¬ e3 = 0) :
    Calls Tryz.prog 99 #[.pointer (some ⟨kb, 0, none⟩), .int .i64 (i : Int), .int .i64 (k : Int), .int .u64 (v : Int)] w fun e w' => e = .returned (.int .i64 e3) ∧ DevIs w' a D3 ∧ Bd D3 (cc + 4200) ∧ RgIs w' kb q a P B3 (m + 192) j c ∧ Gr (kb :: (q.all ++ a.all)) w w' := by
  have ik3 : ¬ ((k : Int) < 0) := by omega
  have ik4 : ¬ ((8 : Int) ≤ (k : Int)) := by omega
  have HB := Lib.hid (And.intro (((Holds.new w #[.pointer (some ⟨kb, 0, none⟩)] 104).gr0 ((Gr.refl [] _).alloc (Obj.cells #[.int .i64 (k : Int)] 3))).gr0 ((Gr.refl [] _).alloc (Obj.cells #[.int .u64 (v : Int)] 22))) (And.intro ((Holds.new (w.alloc (Obj.cells #[.pointer (some ⟨kb, 0, none⟩)] 104)) #[.int .i64 (k : Int)] 3).gr0 ((Gr.refl [] _).alloc (Obj.cells #[.int .u64 (v : Int)] 22))) (Holds.new ((w.alloc (Obj.cells #[.pointer (some ⟨kb, 0, none⟩)] 104)).alloc (Obj.cells #[.int .i64 (k : Int)] 3)) #[.int .u64 (v : Int)] 22)))
  have g1 : Gr [] w (((w.alloc (Obj.cells #[.pointer (some ⟨kb, 0, none⟩)] 104)).alloc (Obj.cells #[.int .i64 (k : Int)] 3)).alloc (Obj.cells #[.int .u64 (v : Int)] 22)) := ((((Gr.refl [] w).alloc _).alloc _).alloc _)
  have HLT := Lib.hid (show ∀ x, w.heap.size ≤ x → x ∉ kb :: (q.all ++ a.all) from fun x hx hy => by
    rcases List.mem_cons.1 hy with rfl | hy
    · have := h.head.lt; omega
    · rcases List.mem_append.1 hy with hy | hy
      · have := h.bk.lt _ hy; omega
      · have := hd.lt _ hy; omega)
  obtain ⟨w1, hw1⟩ : ∃ w1, w1 = (((w.alloc (Obj.cells #[.pointer (some ⟨kb, 0, none⟩)] 104)).alloc (Obj.cells #[.int .i64 (k : Int)] 3)).alloc (Obj.cells #[.int .u64 (v : Int)] 22)) := ⟨_, rfl⟩
  rw [← hw1] at HB g1
  simp only [World.size_alloc] at HB
  have HCh := Lib.hid (change_ww_st_bad i (k : Int) v (h.gr0 g1) (hd.gr0 g1) hb hcc hm hi hv (HB.out.1.cell 0) (HB.out.2.1.cell 0) (HB.out.2.2.cell 0) (HLT.out _ (by omega)) (HLT.out _ (by omega)) (HLT.out _ (by omega)) hc hn hO he3)
  have e0 : w1.cell? ⟨w.heap.size, 0, none⟩ = some (.pointer (some ⟨kb, 0, none⟩)) := HB.out.1.cell 0
  have e1 : w1.cell? ⟨w.heap.size + 1, 0, none⟩ = some (.int .i64 (k : Int)) := HB.out.2.1.cell 0
  have e2 : w1.cell? ⟨w.heap.size + 1 + 1, 0, none⟩ = some (.int .u64 (v : Int)) := HB.out.2.2.cell 0
  have HG1 := Lib.hid g1
  clear h hd hb hcc hm hi hk hv g1 hc hn hO
  go_enter Tryz.func99, Tryz.ntmps99
  go_upto_region 1 with fail
  rw [← hw1]
  clear hw1
  go_wp2_with fail
  refine HCh.out.mono ?_
  rintro e w2 ⟨rfl, d2, b2, r2, g2⟩
  have H2 := Lib.hid (And.intro d2 (And.intro b2 (And.intro r2 ((HG1.out.of0 (cs := kb :: (q.all ++ a.all))).trans g2))))
  clear d2 b2 r2 g2
  go_wp2_with fail
  go_ret
  exact ⟨rfl, H2.out.1, H2.out.2.1, H2.out.2.2.1, H2.out.2.2.2⟩
end
section
variable {w w' : World} {kb : Nat} {q : BkA} {a : DevA} {P : PlanR} {B : BkS} {m j c cc : Nat} {D : DevS}
set_option maxRecDepth 100000 in
set_option maxHeartbeats 8000000 in
theorem rgww_mv_bad (i k v : Nat) {e3 : Int} {D1 D2 D3 : DevS} {B1 B2 B3 : BkS} (h : RgIs w kb q a P B m j c) (hd : DevIs w a D) (hb : Bd D cc) (hcc : cc < 500000000) (hm : m < 70000000) (hi : i < P.l) (hk : k < 8) (hv : v < 18446744073709551616)
    (hc : P.psi ≤ (c : Int)) (hj : j < 4294967295) (hn : (bankR P).a + sizeZ (bankR P) ≤ (D.n : Int)) (hn1 : D1.n = D.n) (hn2 : D2.n = D.n)
    (hR : (readR D (bankR P) B (fromI P j)).2 = 0) (hW : writeS (bankR P) (toI P j) (readR D (bankR P) B (fromI P j)).1 D B = (0, D1, B1)) (hV : writeWordS (bankR P) ((P.l : Int) + 1) 0 (pkN P (j + 1)) D1 B1 = (0, D2, B2)) (hO : writeWordS (bankR P) (slotJ P (j + 1) i) (k : Int) v D2 B2 = (e3, D3, B3)) (he3 : ¬ e3 = 0) :
    Calls Tryz.prog 99 #[.pointer (some ⟨kb, 0, none⟩), .int .i64 (i : Int), .int .i64 (k : Int), .int .u64 (v : Int)] w fun e w' => e = .returned (.int .i64 e3) ∧ DevIs w' a D3 ∧ Bd D3 (cc + 4200) ∧ RgIs w' kb q a P B3 (m + 192) (j + 1) 0 ∧ Gr (kb :: (q.all ++ a.all)) w w' := by
  have ik3 : ¬ ((k : Int) < 0) := by omega
  have ik4 : ¬ ((8 : Int) ≤ (k : Int)) := by omega
  have HB := Lib.hid (And.intro (((Holds.new w #[.pointer (some ⟨kb, 0, none⟩)] 104).gr0 ((Gr.refl [] _).alloc (Obj.cells #[.int .i64 (k : Int)] 3))).gr0 ((Gr.refl [] _).alloc (Obj.cells #[.int .u64 (v : Int)] 22))) (And.intro ((Holds.new (w.alloc (Obj.cells #[.pointer (some ⟨kb, 0, none⟩)] 104)) #[.int .i64 (k : Int)] 3).gr0 ((Gr.refl [] _).alloc (Obj.cells #[.int .u64 (v : Int)] 22))) (Holds.new ((w.alloc (Obj.cells #[.pointer (some ⟨kb, 0, none⟩)] 104)).alloc (Obj.cells #[.int .i64 (k : Int)] 3)) #[.int .u64 (v : Int)] 22)))
  have g1 : Gr [] w (((w.alloc (Obj.cells #[.pointer (some ⟨kb, 0, none⟩)] 104)).alloc (Obj.cells #[.int .i64 (k : Int)] 3)).alloc (Obj.cells #[.int .u64 (v : Int)] 22)) := ((((Gr.refl [] w).alloc _).alloc _).alloc _)
  have HLT := Lib.hid (show ∀ x, w.heap.size ≤ x → x ∉ kb :: (q.all ++ a.all) from fun x hx hy => by
    rcases List.mem_cons.1 hy with rfl | hy
    · have := h.head.lt; omega
    · rcases List.mem_append.1 hy with hy | hy
      · have := h.bk.lt _ hy; omega
      · have := hd.lt _ hy; omega)
  obtain ⟨w1, hw1⟩ : ∃ w1, w1 = (((w.alloc (Obj.cells #[.pointer (some ⟨kb, 0, none⟩)] 104)).alloc (Obj.cells #[.int .i64 (k : Int)] 3)).alloc (Obj.cells #[.int .u64 (v : Int)] 22)) := ⟨_, rfl⟩
  rw [← hw1] at HB g1
  simp only [World.size_alloc] at HB
  have HCh := Lib.hid (change_ww_mv_bad i (k : Int) v (h.gr0 g1) (hd.gr0 g1) hb hcc hm hi hv (HB.out.1.cell 0) (HB.out.2.1.cell 0) (HB.out.2.2.cell 0) (HLT.out _ (by omega)) (HLT.out _ (by omega)) (HLT.out _ (by omega)) hc hj hn hn1 hn2 hR hW hV hO he3)
  have e0 : w1.cell? ⟨w.heap.size, 0, none⟩ = some (.pointer (some ⟨kb, 0, none⟩)) := HB.out.1.cell 0
  have e1 : w1.cell? ⟨w.heap.size + 1, 0, none⟩ = some (.int .i64 (k : Int)) := HB.out.2.1.cell 0
  have e2 : w1.cell? ⟨w.heap.size + 1 + 1, 0, none⟩ = some (.int .u64 (v : Int)) := HB.out.2.2.cell 0
  have HG1 := Lib.hid g1
  clear h hd hb hcc hm hi hk hv g1 hc hj hn hn1 hn2 hR hW hV hO
  go_enter Tryz.func99, Tryz.ntmps99
  go_upto_region 1 with fail
  rw [← hw1]
  clear hw1
  go_wp2_with fail
  refine HCh.out.mono ?_
  rintro e w2 ⟨rfl, d2, b2, r2, g2⟩
  have H2 := Lib.hid (And.intro d2 (And.intro b2 (And.intro r2 ((HG1.out.of0 (cs := kb :: (q.all ++ a.all))).trans g2))))
  clear d2 b2 r2 g2
  go_wp2_with fail
  go_ret
  exact ⟨rfl, H2.out.1, H2.out.2.1, H2.out.2.2.1, H2.out.2.2.2⟩
end
section
variable {w w' : World} {kb : Nat} {q : BkA} {a : DevA} {P : PlanR} {B : BkS} {m j c cc : Nat} {D : DevS}
set_option maxRecDepth 100000 in
set_option maxHeartbeats 8000000 in
theorem rgww_mvbad (i k v : Nat) (h : RgIs w kb q a P B m j c) (hd : DevIs w a D) (hb : Bd D cc) (hcc : cc < 500000000) (hm : m < 70000000) (hi : i < P.l) (hk : k < 8) (hv : v < 18446744073709551616)
    (hc : P.psi ≤ (c : Int)) (hj : j < 4294967295) (hn : (bankR P).a + sizeZ (bankR P) ≤ (D.n : Int)) (hn1 : (writeS (bankR P) (toI P j) (readR D (bankR P) B (fromI P j)).1 D B).2.1.n = D.n)
    (hR : (readR D (bankR P) B (fromI P j)).2 = 0) (hM : ¬ (movZ P D B j).1 = 0) :
    Calls Tryz.prog 99 #[.pointer (some ⟨kb, 0, none⟩), .int .i64 (i : Int), .int .i64 (k : Int), .int .u64 (v : Int)] w fun e w' => e = .returned (.int .i64 (movZ P D B j).1) ∧ DevIs w' a (movZ P D B j).2.1 ∧ Bd (movZ P D B j).2.1 (cc + 4200) ∧ RgIs w' kb q a P (movZ P D B j).2.2 (m + 192) j c ∧ Gr (kb :: (q.all ++ a.all)) w w' := by
  have ik3 : ¬ ((k : Int) < 0) := by omega
  have ik4 : ¬ ((8 : Int) ≤ (k : Int)) := by omega
  have HB := Lib.hid (And.intro (((Holds.new w #[.pointer (some ⟨kb, 0, none⟩)] 104).gr0 ((Gr.refl [] _).alloc (Obj.cells #[.int .i64 (k : Int)] 3))).gr0 ((Gr.refl [] _).alloc (Obj.cells #[.int .u64 (v : Int)] 22))) (And.intro ((Holds.new (w.alloc (Obj.cells #[.pointer (some ⟨kb, 0, none⟩)] 104)) #[.int .i64 (k : Int)] 3).gr0 ((Gr.refl [] _).alloc (Obj.cells #[.int .u64 (v : Int)] 22))) (Holds.new ((w.alloc (Obj.cells #[.pointer (some ⟨kb, 0, none⟩)] 104)).alloc (Obj.cells #[.int .i64 (k : Int)] 3)) #[.int .u64 (v : Int)] 22)))
  have g1 : Gr [] w (((w.alloc (Obj.cells #[.pointer (some ⟨kb, 0, none⟩)] 104)).alloc (Obj.cells #[.int .i64 (k : Int)] 3)).alloc (Obj.cells #[.int .u64 (v : Int)] 22)) := ((((Gr.refl [] w).alloc _).alloc _).alloc _)
  have HLT := Lib.hid (show ∀ x, w.heap.size ≤ x → x ∉ kb :: (q.all ++ a.all) from fun x hx hy => by
    rcases List.mem_cons.1 hy with rfl | hy
    · have := h.head.lt; omega
    · rcases List.mem_append.1 hy with hy | hy
      · have := h.bk.lt _ hy; omega
      · have := hd.lt _ hy; omega)
  obtain ⟨w1, hw1⟩ : ∃ w1, w1 = (((w.alloc (Obj.cells #[.pointer (some ⟨kb, 0, none⟩)] 104)).alloc (Obj.cells #[.int .i64 (k : Int)] 3)).alloc (Obj.cells #[.int .u64 (v : Int)] 22)) := ⟨_, rfl⟩
  rw [← hw1] at HB g1
  simp only [World.size_alloc] at HB
  have HCh := Lib.hid (fun fv => change_mvbad i fv (h.gr0 g1) (hd.gr0 g1) hb hcc hm hi hc hj hn hn1 hR hM)
  have e0 : w1.cell? ⟨w.heap.size, 0, none⟩ = some (.pointer (some ⟨kb, 0, none⟩)) := HB.out.1.cell 0
  have e1 : w1.cell? ⟨w.heap.size + 1, 0, none⟩ = some (.int .i64 (k : Int)) := HB.out.2.1.cell 0
  have e2 : w1.cell? ⟨w.heap.size + 1 + 1, 0, none⟩ = some (.int .u64 (v : Int)) := HB.out.2.2.cell 0
  have HG1 := Lib.hid g1
  clear h hd hb hcc hm hi hk hv g1 hc hj hn hn1 hR hM
  go_enter Tryz.func99, Tryz.ntmps99
  go_upto_region 1 with fail
  rw [← hw1]
  clear hw1
  go_wp2_with fail
  refine (HCh.out _).mono ?_
  rintro e w2 ⟨rfl, d2, b2, r2, g2⟩
  have H2 := Lib.hid (And.intro d2 (And.intro b2 (And.intro r2 ((HG1.out.of0 (cs := kb :: (q.all ++ a.all))).trans g2))))
  clear d2 b2 r2 g2
  go_wp2_with fail
  go_ret
  exact ⟨rfl, H2.out.1, H2.out.2.1, H2.out.2.2.1, H2.out.2.2.2⟩
end
end Go.Proofs.YtifekejcbhllpaaGreat
