/-
  Layer 7: Read, move (where all is done).
-/
import Derived.Test.YtifekejcbhllpaaGreatSkAm
import Derived.Test.YtifekejcbhllpaaGreatSkAo

namespace Go.Proofs.YtifekejcbhllpaaGreat
open Go.RowKit
set_option linter.unusedVariables false

section
variable {w w' : World} {kb : Nat} {q : BkA} {a : DevA} {P : PlanR} {B : BkS} {m j c cc : Nat} {D : DevS}
theorem cell_gr7 {W W' : World} {bs : List Nat} {b o : Nat} (g : Gr bs W W') (hb : b < W.heap.size) (hn : b ∉ bs) : W'.cell? ⟨b, o, none⟩ = W.cell? ⟨b, o, none⟩ := World.cell?_of_block (w := W) (g.block b hb hn)
set_option maxRecDepth 100000 in
set_option maxHeartbeats 8000000 in
theorem rgread_any (i : Nat) (hi : i < P.l) (h : RgIs w kb q a P B m j c) (hd : DevIs w a D) (hn : (bankR P).a + sizeZ (bankR P) ≤ (D.n : Int)) :
    Calls Tryz.prog 127 #[.pointer (some ⟨kb, 0, none⟩), .int .i64 (i : Int)] w fun e w' => e = .returned (.tuple #[.string (readR D (bankR P) B (slotJ P j i)).1, .int .i64 (readR D (bankR P) B (slotJ P j i)).2]) ∧ Gr [] w w' := by
  have HF := Lib.hid (rfind_in i h hi)
  have HS := Lib.hid (fun W (g : Gr [] w W) => rslot_any i (h.gr0 g) hi)
  have HR := Lib.hid (fun W (g : Gr [] w W) => read_any (slotJ P j i) (h.bk.gr0 g) (hd.gr0 g) hn)
  obtain ⟨R, hR⟩ : ∃ R, R = readR D (bankR P) B (slotJ P j i) := ⟨_, rfl⟩
  rw [← hR] at HR ⊢
  have k4 := kp_cell (a := ⟨kb, 4, none⟩) h.c4
  have hne := kp_ne w
  clear h hd hn hi hR
  generalize slotJ P j i = z at *
  go_enter Tryz.func127, Tryz.ntmps127
  go_wp2_with fail
  refine HF.out.mono ?_
  rintro e w' ⟨rfl, rfl⟩
  go_wp2_with fail
  refine wp_region_kp (by kernel_rfl) (by kernel_rfl) ?_
  repeat (go_big_quiet_step ((rename_i x; first
    | exact kp_call x ((HS.out _ (Gr.ofBelow x.h)).mono fun _ _ q => ⟨q.1, q.2.below0⟩)
    | exact kp_call x ((HR.out _ (Gr.ofBelow x.h)).mono fun _ _ q => ⟨q.1, q.2.below0⟩))))
  with_reducible refine wpQuiet_nil ?_
  rintro _ ⟨y, rfl⟩
  have HG := Lib.hid (Gr.ofBelow (cs := []) y.h)
  clear k4 hne
  generalize y.w = w2 at *
  go_wp2_with fail
  exact bodyPost_ret (v := .tuple #[.string R.1, .int .i64 R.2]) (by simp [results, Tryz.results127, go_sem]) rfl ⟨rfl, HG.out⟩
end
/-! ### A move -/
def fromI (P : PlanR) (j : Nat) : Int := if 0 < gAt P.l j then gAt P.l j - 1 else (P.l : Int)
def toI (P : PlanR) (j : Nat) : Int := gAt P.l j
def pkN (P : PlanR) (j : Nat) : Nat := (pkI (sAt P.l j) (gAt P.l j) (j : Int)).toNat
section
variable {w w' : World} {kb : Nat} {q : BkA} {a : DevA} {P : PlanR} {B : BkS} {m j c cc : Nat} {D : DevS}
theorem next_j (hP : OkR P) (hj : j < 4294967295) (W : World) :
    Calls Tryz.prog 176 #[.agg #[.int .i64 (sAt P.l j), .int .i64 (gAt P.l j), .int .u32 (j : Int)], .int .i64 (P.l : Int)] W fun e w' =>
      e = .returned (.tuple #[.agg #[.int .i64 (sAt P.l (j + 1)), .int .i64 (gAt P.l (j + 1)), .int .u32 ((j + 1 : Nat) : Int)], .int .i64 (fromI P j), .int .i64 (toI P j)]) ∧ Gr [] W w' := by
  have hr := at_right P.l j hP.l1 hP.l2
  have em : m1 (j : Int) = ((j + 1 : Nat) : Int) := by unfold m1; omega
  unfold fromI toI
  by_cases hg : 0 < gAt P.l j
  · obtain ⟨e1, e2⟩ := at_pos P.l j hP.l1 hg
    rw [e1, e2, ← em, if_pos hg]
    exact (next_pos _ _ _ _ W hr hg (by omega)).mono fun e w' ⟨he, hb⟩ => ⟨he, Gr.ofBelow hb⟩
  · have h0 : gAt P.l j = 0 := by have := hr.2.2.2.2.1; omega
    obtain ⟨e1, e2⟩ := at_zero P.l j hP.l1 h0
    rw [e1, e2, ← em, if_neg hg, h0]
    rw [h0] at hr
    exact (next_zero _ _ _ W hr (by omega)).mono fun e w' ⟨he, hb⟩ => ⟨he, Gr.ofBelow hb⟩
theorem pkN_val (hP : OkR P) (j : Nat) (hj : j ≤ 4294967295) : ((pkN P j : Nat) : Int) = pkI (sAt P.l j) (gAt P.l j) (j : Int) ∧ pkN P j < 18446744073709551616 := by
  have h := pkI_b (sAt P.l j) (gAt P.l j) (j : Int) (by omega)
  unfold pkN
  omega
theorem readR_size (z : Int) : (readR D (bankR P) B z).1.size ≤ 64 := by
  unfold readR
  split
  · split
    · exact Nat.zero_le _
    · show (⟨(getT D _).toArray⟩ : ByteArray).size ≤ 64
      rw [lineF_text, textU_size]
      exact Nat.le_refl _
  · exact Nat.zero_le _
set_option maxRecDepth 100000 in
set_option maxHeartbeats 8000000 in
/-- A move, where all is done. -/
theorem rmove_ok {D1 D2 : DevS} {B1 B2 : BkS} (h : RgIs w kb q a P B m j c) (hd : DevIs w a D) (hb : Bd D cc) (hcc : cc < 600000000) (hm : m < 80000000) (hj : j < 4294967295) (hn : (bankR P).a + sizeZ (bankR P) ≤ (D.n : Int)) (hn1 : D1.n = D.n)
    (hR : (readR D (bankR P) B (fromI P j)).2 = 0) (hW : writeS (bankR P) (toI P j) (readR D (bankR P) B (fromI P j)).1 D B = (0, D1, B1)) (hV : writeWordS (bankR P) ((P.l : Int) + 1) 0 (pkN P (j + 1)) D1 B1 = (0, D2, B2)) :
    Calls Tryz.prog 155 #[.pointer (some ⟨kb, 0, none⟩)] w fun e w' => e = .returned (.int .i64 0) ∧ DevIs w' a D2 ∧ Bd D2 (cc + 2800) ∧ RgIs w' kb q a P B2 (m + 128) (j + 1) 0 ∧ Gr (kb :: (q.all ++ a.all)) w w' := by
  obtain ⟨k1, k2⟩ := pkN_val h.ok (j + 1) (by omega)
  have HK := Lib.hid (And.intro k1 k2)
  have HNx := Lib.hid (fun W => next_j (P := P) (j := j) h.ok hj W)
  have HRd := Lib.hid (fun W (q1 : BkIs W q a (bankR P) B m) (q2 : DevIs W a D) => read_any (fromI P j) q1 q2 hn)
  rw [hR] at HRd
  have hts := readR_size (D := D) (P := P) (B := B) (fromI P j)
  obtain ⟨T, hT⟩ : ∃ T, T = (readR D (bankR P) B (fromI P j)).1 := ⟨_, rfl⟩
  rw [← hT] at HRd hW hts
  have HWr := Lib.hid (fun W (q1 : BkIs W q a (bankR P) B m) (q2 : DevIs W a D) => bwrite_any (toI P j) T q1 q2 hb (by omega) (by unfold maxLen; omega) (by omega))
  rw [hW] at HWr
  have HWw := Lib.hid (fun W (q1 : BkIs W q a (bankR P) B1 (m + 64)) (q2 : DevIs W a D1) (q3 : Bd D1 (cc + 1400)) => show Calls Tryz.prog 115 #[.pointer (some ⟨q.b, 0, none⟩), .int .i64 ((P.l : Int) + 1), .int .i64 0, .int .u64 (pkI (sAt P.l (j + 1)) (gAt P.l (j + 1)) ((j + 1 : Nat) : Int))] W _ by
    rw [← HK.out.1]
    exact bww_any ((P.l : Int) + 1) 0 (pkN P (j + 1)) q1 q2 q3 (by omega) HK.out.2 (by rw [hn1]; exact hn) (by omega))
  rw [hV] at HWw
  have HPk := Lib.hid (fun W => pack_bel (sAt P.l (j + 1)) (gAt P.l (j + 1)) ((j + 1 : Nat) : Int) W (by omega))
  have HRg := Lib.hid (fun W => show Calls Tryz.prog 116 #[.agg #[.int .i64 P.a, .int .i64 (P.l : Int), .int .i64 P.s, .int .i64 P.psi]] W _ from reg_any h.ok W)
  have H := Lib.hid h
  have HD := Lib.hid hd
  have c0 := h.c0
  have c1 := h.c1
  have c2 := h.c2
  have c3 := h.c3
  have c4 := h.c4
  have c5 := h.c5
  have c6 := h.c6
  have c7 := h.c7
  obtain ⟨S2, hS2⟩ : ∃ S2 : Int, S2 = sAt P.l (j + 1) := ⟨_, rfl⟩
  obtain ⟨G2, hG2⟩ : ∃ G2 : Int, G2 = gAt P.l (j + 1) := ⟨_, rfl⟩
  obtain ⟨J2, hJ2⟩ : ∃ J2 : Int, J2 = ((j + 1 : Nat) : Int) := ⟨_, rfl⟩
  have HSG := Lib.hid (And.intro hS2 (And.intro hG2 hJ2))
  rw [← hS2, ← hG2, ← hJ2] at HNx HPk HWw
  clear h hd hb hcc hm hj hn hn1 hR hW hV k1 k2 hts hT hS2 hG2 hJ2
  generalize sAt P.l j = sj at *
  generalize gAt P.l j = gj at *
  generalize fromI P j = ff at *
  generalize toI P j = tt at *
  generalize pkI S2 G2 J2 = pk at *
  go_enter Tryz.func155, Tryz.ntmps155
  go_wp2_with fail
  have HKc := Lib.hid (show ∀ W W' : World, (W.cell? ⟨kb, 1, none⟩ = some (.int .i64 (P.l : Int)) ∧ W.cell? ⟨kb, 5, none⟩ = some (.int .i64 sj) ∧ W.cell? ⟨kb, 6, none⟩ = some (.int .i64 gj) ∧ W.cell? ⟨kb, 7, none⟩ = some (.int .u32 (j : Int))) → Gr [] W W' → (W'.cell? ⟨kb, 1, none⟩ = some (.int .i64 (P.l : Int)) ∧ W'.cell? ⟨kb, 5, none⟩ = some (.int .i64 sj) ∧ W'.cell? ⟨kb, 6, none⟩ = some (.int .i64 gj) ∧ W'.cell? ⟨kb, 7, none⟩ = some (.int .u32 (j : Int))) from fun W W' q g =>
    ⟨(g.cell0 (World.block_lt_of_cell? _ _ q.1)).trans q.1, (g.cell0 (World.block_lt_of_cell? _ _ q.2.1)).trans q.2.1, (g.cell0 (World.block_lt_of_cell? _ _ q.2.2.1)).trans q.2.2.1, (g.cell0 (World.block_lt_of_cell? _ _ q.2.2.2)).trans q.2.2.2⟩)
  have HKs := Lib.hid (show ∀ (W : World) (nb : Nat) (u0 u1 u2 : Value), nb ≠ kb → (W.cell? ⟨kb, 1, none⟩ = some (.int .i64 (P.l : Int)) ∧ W.cell? ⟨kb, 5, none⟩ = some (.int .i64 sj) ∧ W.cell? ⟨kb, 6, none⟩ = some (.int .i64 gj) ∧ W.cell? ⟨kb, 7, none⟩ = some (.int .u32 (j : Int))) → ((((W.setCell ⟨nb, 0, none⟩ u0).setCell ⟨nb, 1, none⟩ u1).setCell ⟨nb, 2, none⟩ u2).cell? ⟨kb, 1, none⟩ = some (.int .i64 (P.l : Int)) ∧ (((W.setCell ⟨nb, 0, none⟩ u0).setCell ⟨nb, 1, none⟩ u1).setCell ⟨nb, 2, none⟩ u2).cell? ⟨kb, 5, none⟩ = some (.int .i64 sj) ∧ (((W.setCell ⟨nb, 0, none⟩ u0).setCell ⟨nb, 1, none⟩ u1).setCell ⟨nb, 2, none⟩ u2).cell? ⟨kb, 6, none⟩ = some (.int .i64 gj) ∧ (((W.setCell ⟨nb, 0, none⟩ u0).setCell ⟨nb, 1, none⟩ u1).setCell ⟨nb, 2, none⟩ u2).cell? ⟨kb, 7, none⟩ = some (.int .u32 (j : Int))) from fun W nb u0 u1 u2 hne q => by
    have g : Gr [nb] W (((W.setCell ⟨nb, 0, none⟩ u0).setCell ⟨nb, 1, none⟩ u1).setCell ⟨nb, 2, none⟩ u2) := (((Gr.refl [nb] W).setCell (p := ⟨nb, 0, none⟩) (.inl (by simp)) _).setCell (p := ⟨nb, 1, none⟩) (.inl (by simp)) _).setCell (p := ⟨nb, 2, none⟩) (.inl (by simp)) _
    have hn : kb ∉ [nb] := by simp; exact fun e => hne e.symm
    exact ⟨(cell_gr7 g (World.block_lt_of_cell? _ _ q.1) hn).trans q.1, (cell_gr7 g (World.block_lt_of_cell? _ _ q.2.1) hn).trans q.2.1, (cell_gr7 g (World.block_lt_of_cell? _ _ q.2.2.1) hn).trans q.2.2.1, (cell_gr7 g (World.block_lt_of_cell? _ _ q.2.2.2) hn).trans q.2.2.2⟩)
  have HNE := Lib.hid (show w.heap.size ≠ kb from fun e => by have := H.out.head.lt; omega)
  have s0 := And.intro c1 (And.intro c5 (And.intro c6 c7))
  have s4 := HKc.out _ _ s0 (Gr.refl [] w).drew
  have HG0 := Lib.hid ((Gr.refl [] w).drew)
  clear c0 c1 c2 c3 c4 c5 c6 c7
  go_cut [3, 4, 5] (fun b3 v4 v5 wz => v4 = .int .i64 ff ∧ v5 = .int .i64 tt ∧ ∃ nb : Nat, b3 = .pointer (some ⟨nb, 0, none⟩) ∧ Holds wz nb #[.int .i64 S2, .int .i64 G2, .int .u32 J2] 142 ∧ w.heap.size ≤ nb ∧ Gr [] w wz)
  case first =>
    go_region_held3 (fun w' : World => w'.cell? ⟨kb, 1, none⟩ = some (.int .i64 (P.l : Int)) ∧ w'.cell? ⟨kb, 5, none⟩ = some (.int .i64 sj) ∧ w'.cell? ⟨kb, 6, none⟩ = some (.int .i64 gj) ∧ w'.cell? ⟨kb, 7, none⟩ = some (.int .u32 (j : Int))) (first | assumption | exact HKc.out w _ s0 (((Gr.refl [] w).alloc _).drew) | exact HKc.out _ _ (by assumption) ((Gr.refl [] _).alloc _) | exact HKc.out _ _ (by assumption) (((Gr.refl [] _).alloc _).drew) | exact HKs.out _ _ _ _ _ HNE.out (by assumption) | go_keep) ((go_at_call 176; (with_reducible refine Calls.mono (HNx.out _) ?_); rintro e w2 ⟨rfl, g2⟩; first
      | (have s4 := HKc.out _ _ s4 g2; have HG2 := Lib.hid (HG0.out.trans g2); clear g2)
      | (have s4 := HKc.out _ _ (HKc.out w _ s0 (((Gr.refl [] w).alloc _).drew)) g2; have HZ := ((Holds.new w #[.int .i64 0, .int .i64 0, .int .u32 0] 142).gr0 ((Gr.refl [] _).drew)).gr0 g2; have z0 := HZ.cell 0; have z1 := HZ.cell 1; have z2 := HZ.cell 2; have fz0 := HZ.frozen 0; have fz1 := HZ.frozen 1; have fz2 := HZ.frozen 2; have HG2 := Lib.hid (((Gr.refl [] w).alloc (Obj.cells #[.int .i64 0, .int .i64 0, .int .u32 0] 142)).drew.trans g2); have HZH := Lib.hid HZ; clear g2 HZ)))
    all_goals
      go_wp2_with fail
      go_meet
      first
        | exact ⟨rfl, rfl, _, rfl, Holds.new _ _ _, HG2.out.size, HG2.out.trans ((Gr.refl [] _).alloc _)⟩
        | exact ⟨rfl, rfl, _, rfl, ((HZH.out.set 0 (.int .i64 S2)).set 1 (.int .i64 G2)).set 2 (.int .u32 J2), Nat.le_refl _, ((HG2.out.setCell (p := ⟨w.heap.size, 0, none⟩) (.inr (Nat.le_refl _)) _).setCell (p := ⟨w.heap.size, 1, none⟩) (.inr (Nat.le_refl _)) _).setCell (p := ⟨w.heap.size, 2, none⟩) (.inr (Nat.le_refl _)) _⟩
  obtain ⟨rfl, rfl, nb, rfl, hh, hnb, hg⟩ := hcut
  obtain ⟨w3, hw3⟩ : ∃ w3, w3 = wc := ⟨_, rfl⟩
  rw [← hw3] at hh hg ⊢
  clear hw3
  have HN := Lib.hid hh
  have H3 := Lib.hid (And.intro (H.out.gr0 hg) (And.intro (HD.out.gr0 hg) hg))
  have HNB := Lib.hid (show nb ∉ a.all ∧ nb ∉ q.all ∧ nb ≠ kb ∧ w.heap.size ≤ nb from ⟨fun e => by have := HD.out.lt _ e; omega, fun e => by have := H.out.bk.lt _ e; omega, fun e => by have := H.out.head.lt; omega, hnb⟩)
  clear hh hnb hg
  have c4 := H3.out.1.c4
  go_wp2_with fail
  refine (HRd.out _ H3.out.1.bk H3.out.2.1).mono ?_
  rintro e w4 ⟨rfl, g4⟩
  have H4 := Lib.hid (And.intro (H3.out.1.gr0 g4) (And.intro (H3.out.2.1.gr0 g4) (And.intro (H3.out.2.2.trans g4) (HN.out.gr0 g4))))
  have c4 := H4.out.1.c4
  clear g4 H3 HN HRd
  go_wp2_with fail
  refine (HWr.out _ H4.out.1.bk H4.out.2.1).mono ?_
  rintro e w5 ⟨rfl, d5, b5, k5, g5⟩
  have H5 := Lib.hid (And.intro (H4.out.1.bank g5 k5) (And.intro d5 (And.intro b5 (And.intro ((H4.out.2.2.1.of0 (cs := q.all ++ a.all)).trans g5) (H4.out.2.2.2.gr g5 (by simp only [List.mem_append, not_or]; exact ⟨HNB.out.2.1, HNB.out.1⟩))))))
  clear d5 b5 k5 g5 c4 H4 HWr
  have k0 := kp_cell (a := ⟨kb, 0, none⟩) H5.out.1.c0
  have k1 := kp_cell (a := ⟨kb, 1, none⟩) H5.out.1.c1
  have k2 := kp_cell (a := ⟨kb, 2, none⟩) H5.out.1.c2
  have k3 := kp_cell (a := ⟨kb, 3, none⟩) H5.out.1.c3
  have k4 := kp_cell (a := ⟨kb, 4, none⟩) H5.out.1.c4
  have n0 := kp_cell (a := ⟨nb, 0, none⟩) (show w5.cell? ⟨nb, 0, none⟩ = some (.int .i64 S2) from H5.out.2.2.2.2.cell 0)
  have n1 := kp_cell (a := ⟨nb, 1, none⟩) (show w5.cell? ⟨nb, 1, none⟩ = some (.int .i64 G2) from H5.out.2.2.2.2.cell 1)
  have n2 := kp_cell (a := ⟨nb, 2, none⟩) (show w5.cell? ⟨nb, 2, none⟩ = some (.int .u32 J2) from H5.out.2.2.2.2.cell 2)
  have hne := kp_ne w5
  go_wp2_with fail
  refine wp_region_kp_tail 11 (by kernel_rfl) (by kernel_rfl) ?_
  simp only [List.take_succ_cons, List.take_zero, List.drop_succ_cons, List.drop_zero]
  repeat (go_big_quiet_step ((rename_i x; first
    | exact kp_call x ((HRg.out _).mono fun _ _ q => ⟨q.1, q.2.below0⟩)
    | exact kp_call x (HPk.out _))))
  with_reducible refine wpQuiet_nil ?_
  rintro _ ⟨y, rfl⟩
  have gy : Gr [] w5 y.w := Gr.ofBelow (cs := []) y.h
  have H6 := Lib.hid (And.intro (H5.out.1.gr0 gy) (And.intro (H5.out.2.1.gr0 gy) (And.intro H5.out.2.2.1 (And.intro (H5.out.2.2.2.1.next0 gy) (H5.out.2.2.2.2.gr0 gy)))))
  clear k0 k1 k2 k3 k4 n0 n1 n2 hne gy H5 HRg HPk
  generalize y.w = w6 at *
  go_wp2_with fail
  refine (HWw.out _ H6.out.1.bk H6.out.2.1 H6.out.2.2.1).mono ?_
  rintro e w7 ⟨rfl, d7, b7, k7, g7⟩
  have H7 := Lib.hid (And.intro (H6.out.1.bank g7 k7) (And.intro d7 (And.intro b7 (And.intro (H6.out.2.2.2.1.trans g7) (H6.out.2.2.2.2.gr g7 (by simp only [List.mem_append, not_or]; exact ⟨HNB.out.2.1, HNB.out.1⟩))))))
  clear d7 b7 k7 g7 H6 HWw
  have n0 : w7.cell? ⟨nb, 0, none⟩ = some (.int .i64 S2) := H7.out.2.2.2.2.cell 0
  have n1 : w7.cell? ⟨nb, 1, none⟩ = some (.int .i64 G2) := H7.out.2.2.2.2.cell 1
  have n2 : w7.cell? ⟨nb, 2, none⟩ = some (.int .u32 J2) := H7.out.2.2.2.2.cell 2
  have f5 : w7.frozen? ⟨kb, 5, none⟩ = false := H7.out.1.head.frozen 5
  have f6 : w7.frozen? ⟨kb, 6, none⟩ = false := H7.out.1.head.frozen 6
  have f7 : w7.frozen? ⟨kb, 7, none⟩ = false := H7.out.1.head.frozen 7
  have f8 : w7.frozen? ⟨kb, 8, none⟩ = false := H7.out.1.head.frozen 8
  have e5 := H7.out.1.c5
  have e6 := H7.out.1.c6
  have e7 := H7.out.1.c7
  have e8 := H7.out.1.c8
  go_wp2_with fail
  go_ret
  obtain ⟨rfl, rfl, rfl⟩ := HSG.out
  have gs : Gr [kb] w7 ((((w7.setCell ⟨kb, 5, none⟩ (.int .i64 (sAt P.l (j + 1)))).setCell ⟨kb, 6, none⟩ (.int .i64 (gAt P.l (j + 1)))).setCell ⟨kb, 7, none⟩ (.int .u32 ((j + 1 : Nat) : Int))).setCell ⟨kb, 8, none⟩ (.int .i64 0)) := ((((Gr.refl [kb] w7).setCell (p := ⟨kb, 5, none⟩) (.inl (by simp)) _).setCell (p := ⟨kb, 6, none⟩) (.inl (by simp)) _).setCell (p := ⟨kb, 7, none⟩) (.inl (by simp)) _).setCell (p := ⟨kb, 8, none⟩) (.inl (by simp)) _
  have hs := (((H7.out.1.head.set 5 (.int .i64 (sAt P.l (j + 1)))).set 6 (.int .i64 (gAt P.l (j + 1)))).set 7 (.int .u32 ((j + 1 : Nat) : Int))).set 8 (.int .i64 0)
  exact ⟨rfl, H7.out.2.1.gr gs (fun x hx hy => by simp at hy; subst hy; exact H7.out.1.ka hx), H7.out.2.2.1.mono (by omega), ⟨hs, (H7.out.1.bk.moreN _ (by omega)).gr gs (fun x hx hy => by simp at hy; subst hy; exact H7.out.1.kq hx), H7.out.1.ok, H7.out.1.kq, H7.out.1.ka⟩, (H7.out.2.2.2.1.mono (fun b hb => List.mem_cons_of_mem _ hb)).trans (gs.mono (fun b hb => by simp at hb; subst hb; simp))⟩
end
end Go.Proofs.YtifekejcbhllpaaGreat
