/-
  Layer 7: Write and WriteWord, where all is done.
-/
import Derived.Test.YtifekejcbhllpaaGreatSkAp

namespace Go.Proofs.YtifekejcbhllpaaGreat
open Go.RowKit
set_option linter.unusedVariables false

section
variable {w w' : World} {kb : Nat} {q : BkA} {a : DevA} {P : PlanR} {B : BkS} {m j c cc : Nat} {D : DevS}
/-- What an operation on the bank leaves of a region. -/
def OpPost (w : World) (kb : Nat) (q : BkA) (a : DevA) (P : PlanR) (m j c cc : Nat) (X : Int × DevS × BkS) (e : Ending) (w' : World) : Prop :=
  e = .returned (.int .i64 X.1) ∧ DevIs w' a X.2.1 ∧ Bd X.2.1 (cc + 1400) ∧ RgIs w' kb q a P X.2.2 (m + 64) j c ∧ Gr (q.all ++ a.all) w w'
set_option maxRecDepth 100000 in
set_option maxHeartbeats 8000000 in
theorem wr1_any {rc sc : Nat} (z : Int) (s : ByteArray) (h : RgIs w kb q a P B m j c) (hd : DevIs w a D) (hb : Bd D cc) (hcc : cc < 700000000) (hs : s.size ≤ maxLen) (hm : m < 90000000) (r1 : w.cell? ⟨rc, 0, none⟩ = some (.pointer (some ⟨kb, 0, none⟩))) (s1 : w.cell? ⟨sc, 0, none⟩ = some (.string s)) :
    Calls Tryz.prog 132 #[.int .i64 z, .pointer (some ⟨rc, 0, none⟩), .pointer (some ⟨sc, 0, none⟩)] w (OpPost w kb q a P m j c cc (writeS (bankR P) z s D B)) := by
  have HW := Lib.hid (fun W (g : Gr [] w W) => bwrite_any z s (h.gr0 g).bk (hd.gr0 g) hb hcc hs hm)
  have H := Lib.hid h
  obtain ⟨X, hX⟩ : ∃ X, X = writeS (bankR P) z s D B := ⟨_, rfl⟩
  rw [← hX] at HW ⊢
  have k4 := kp_cell (a := ⟨kb, 4, none⟩) h.c4
  have kr := kp_cell r1
  have ks := kp_cell s1
  have hne := kp_ne w
  clear h hd hb hcc hs hm hX r1 s1
  go_enter Tryz.func132, Tryz.ntmps132
  go_wp2_with fail
  refine wp_region_kp_tail 6 (by kernel_rfl) (by kernel_rfl) ?_
  simp only [List.take_succ_cons, List.take_zero, List.drop_succ_cons, List.drop_zero]
  repeat (go_big_quiet_step (fail))
  with_reducible refine wpQuiet_nil ?_
  rintro _ ⟨y, rfl⟩
  have HG := Lib.hid (Gr.ofBelow (cs := []) y.h)
  clear k4 kr ks hne
  generalize y.w = w2 at *
  go_wp2_with fail
  refine (HW.out _ HG.out).mono ?_
  rintro e w3 ⟨rfl, d3, b3, k3, g3⟩
  have H3 := Lib.hid (And.intro d3 (And.intro b3 (And.intro ((H.out.gr0 HG.out).bank g3 k3) ((HG.out.of0 (cs := q.all ++ a.all)).trans g3))))
  clear d3 b3 k3 g3
  go_wp2_with fail
  go_ret
  exact ⟨rfl, H3.out.1, H3.out.2.1, H3.out.2.2.1, H3.out.2.2.2⟩
set_option maxRecDepth 100000 in
set_option maxHeartbeats 8000000 in
theorem ww1_any {rc sk sv : Nat} (z k : Int) (v : Nat) (h : RgIs w kb q a P B m j c) (hd : DevIs w a D) (hb : Bd D cc) (hcc : cc < 700000000) (hv : v < 18446744073709551616) (hn : (bankR P).a + sizeZ (bankR P) ≤ (D.n : Int)) (hm : m < 90000000) (r1 : w.cell? ⟨rc, 0, none⟩ = some (.pointer (some ⟨kb, 0, none⟩))) (s1 : w.cell? ⟨sk, 0, none⟩ = some (.int .i64 k)) (s2 : w.cell? ⟨sv, 0, none⟩ = some (.int .u64 (v : Int))) :
    Calls Tryz.prog 134 #[.int .i64 z, .pointer (some ⟨rc, 0, none⟩), .pointer (some ⟨sk, 0, none⟩), .pointer (some ⟨sv, 0, none⟩)] w (OpPost w kb q a P m j c cc (writeWordS (bankR P) z k v D B)) := by
  have HW := Lib.hid (fun W (g : Gr [] w W) => bww_any z k v (h.gr0 g).bk (hd.gr0 g) hb hcc hv hn hm)
  have H := Lib.hid h
  obtain ⟨X, hX⟩ : ∃ X, X = writeWordS (bankR P) z k v D B := ⟨_, rfl⟩
  rw [← hX] at HW ⊢
  have k4 := kp_cell (a := ⟨kb, 4, none⟩) h.c4
  have kr := kp_cell r1
  have ks := kp_cell s1
  have kv := kp_cell s2
  have hne := kp_ne w
  clear h hd hb hcc hn hm hX r1 s1 s2 hv
  go_enter Tryz.func134, Tryz.ntmps134
  go_wp2_with fail
  refine wp_region_kp_tail 7 (by kernel_rfl) (by kernel_rfl) ?_
  simp only [List.take_succ_cons, List.take_zero, List.drop_succ_cons, List.drop_zero]
  repeat (go_big_quiet_step (fail))
  with_reducible refine wpQuiet_nil ?_
  rintro _ ⟨y, rfl⟩
  have HG := Lib.hid (Gr.ofBelow (cs := []) y.h)
  clear k4 kr ks kv hne
  generalize y.w = w2 at *
  go_wp2_with fail
  refine (HW.out _ HG.out).mono ?_
  rintro e w3 ⟨rfl, d3, b3, k3, g3⟩
  have H3 := Lib.hid (And.intro d3 (And.intro b3 (And.intro ((H.out.gr0 HG.out).bank g3 k3) ((HG.out.of0 (cs := q.all ++ a.all)).trans g3))))
  clear d3 b3 k3 g3
  go_wp2_with fail
  go_ret
  exact ⟨rfl, H3.out.1, H3.out.2.1, H3.out.2.2.1, H3.out.2.2.2⟩
end
section
variable {w w' : World} {kb : Nat} {q : BkA} {a : DevA} {P : PlanR} {B : BkS} {m j c cc : Nat} {D : DevS}
set_option maxRecDepth 100000 in
set_option maxHeartbeats 8000000 in
theorem change_w_st {rc sc : Nat} (i : Nat) (s : ByteArray) {D3 : DevS} {B3 : BkS} (h : RgIs w kb q a P B m j c) (hd : DevIs w a D) (hb : Bd D cc) (hcc : cc < 550000000) (hm : m < 70000000) (hi : i < P.l) (hs : s.size ≤ maxLen) (r1 : w.cell? ⟨rc, 0, none⟩ = some (.pointer (some ⟨kb, 0, none⟩))) (s1 : w.cell? ⟨sc, 0, none⟩ = some (.string s)) (hrc : rc ∉ kb :: (q.all ++ a.all)) (hsc : sc ∉ kb :: (q.all ++ a.all))
    (hc : (c : Int) < P.psi) (hn : (bankR P).a + sizeZ (bankR P) ≤ (D.n : Int)) (hO : writeS (bankR P) (slotJ P j i) s D B = (0, D3, B3)) :
    Calls Tryz.prog 131 #[.pointer (some ⟨kb, 0, none⟩), .int .i64 (i : Int), (.func (.func 132) #[] #[.pointer (some ⟨rc, 0, none⟩), .pointer (some ⟨sc, 0, none⟩)])] w fun e w' => e = .returned (.int .i64 0) ∧ DevIs w' a D3 ∧ Bd D3 (cc + 4200) ∧ RgIs w' kb q a P B3 (m + 192) j (c + 1) ∧ Gr (kb :: (q.all ++ a.all)) w w' := by
  have HNF := Lib.hid (show (bankR P).a + sizeZ (bankR P) ≤ (D.n : Int) from hn)
  have HF := Lib.hid (rfind_in i h hi)
  have HCl := Lib.hid (fun W (q1 : RgIs W kb q a P B m j c) (q2 : DevIs W a D) (q3 : Bd D cc) (q4 : W.cell? ⟨rc, 0, none⟩ = some (.pointer (some ⟨kb, 0, none⟩)) ∧ W.cell? ⟨sc, 0, none⟩ = some (.string s)) => show Calls Tryz.prog 132 #[.int .i64 (slotJ P j i), .pointer (some ⟨rc, 0, none⟩), .pointer (some ⟨sc, 0, none⟩)] W _ from wr1_any (slotJ P j i) s q1 q2 q3 (by omega) hs (by omega) q4.1 q4.2)
  rw [hO] at HCl
  have HSl := Lib.hid (fun W (q1 : RgIs W kb q a P B m j c) => rslot_any i q1 hi)
  have HKp := Lib.hid (show ∀ (W W' : World) (bs : List Nat), (W.cell? ⟨rc, 0, none⟩ = some (.pointer (some ⟨kb, 0, none⟩)) ∧ W.cell? ⟨sc, 0, none⟩ = some (.string s)) → Gr bs W W' → (∀ x ∈ bs, x ∈ kb :: (q.all ++ a.all)) → (W'.cell? ⟨rc, 0, none⟩ = some (.pointer (some ⟨kb, 0, none⟩)) ∧ W'.cell? ⟨sc, 0, none⟩ = some (.string s)) from fun W W' bs q g hbs => by
    have hrc := fun e => hrc (hbs _ e)
    have hsc := fun e => hsc (hbs _ e)
    exact ⟨(cell_gr7 g (World.block_lt_of_cell? _ _ q.1) hrc).trans q.1, (cell_gr7 g (World.block_lt_of_cell? _ _ q.2) hsc).trans q.2⟩)
  have HC0 := Lib.hid (show w.cell? ⟨rc, 0, none⟩ = some (.pointer (some ⟨kb, 0, none⟩)) ∧ w.cell? ⟨sc, 0, none⟩ = some (.string s) from ⟨r1, s1⟩)
  have c8 := h.c8
  have c3 := h.c3
  have H := Lib.hid (And.intro h (And.intro hd hb))
  have ik : ¬ (P.psi ≤ (c : Int)) := by omega
  have hc9 : c ≤ 65535 := by have := h.ok.p2; omega
  clear h hd hb hcc hm hi hc hn hO hs r1 s1 hrc hsc 
  generalize hZ : slotJ P j i = z at *
  clear hZ
  go_enter Tryz.func131, Tryz.ntmps131
  go_wp2_with fail
  refine HF.out.mono ?_
  rintro e w' ⟨rfl, rfl⟩
  go_wp2_with fail
  go_quiet (fail)
  have gq : Gr [] w' (w'.drewN nq) := (Gr.refl [] w').drewN nq
  have H1 := Lib.hid (And.intro (H.out.1.gr0 gq) (And.intro (H.out.2.1.gr0 gq) (And.intro H.out.2.2 (And.intro gq (HKp.out _ _ [] HC0.out gq (by simp))))))
  clear c8 c3 gq
  generalize w'.drewN nq = w1 at *
  go_wp2_with fail
  have H2 := Lib.hid (And.intro H1.out.1 (And.intro H1.out.2.1 (And.intro H1.out.2.2.1 (And.intro (H1.out.2.2.2.1.of0 (cs := kb :: (q.all ++ a.all))) H1.out.2.2.2.2))))
  clear H1
  generalize w1 = w2 at *
  refine (HSl.out _ H2.out.1).mono ?_
  rintro e w3 ⟨rfl, g3⟩
  have H3 := Lib.hid (And.intro (H2.out.1.gr0 g3) (And.intro (H2.out.2.1.gr0 g3) (And.intro H2.out.2.2.1 (And.intro (H2.out.2.2.2.1.next0 g3) (HKp.out _ _ [] H2.out.2.2.2.2 g3 (by simp))))))
  clear g3 H2
  go_wp2_with fail
  refine (HCl.out _ H3.out.1 H3.out.2.1 H3.out.2.2.1 H3.out.2.2.2.2).mono ?_
  rintro e w4 ⟨rfl, d4, b4, r4, g4⟩
  have H4 := Lib.hid (And.intro r4 (And.intro d4 (And.intro b4 (H3.out.2.2.2.1.trans (g4.mono (fun b hb => List.mem_cons_of_mem _ hb))))))
  clear d4 b4 r4 g4 H3
  have c8 := H4.out.1.c8
  have f8 : w4.frozen? ⟨kb, 8, none⟩ = false := H4.out.1.head.frozen 8
  go_wp2_with fail
  go_ret
  have gs : Gr [kb] w4 (w4.setCell ⟨kb, 8, none⟩ (.int .i64 ((c + 1 : Nat) : Int))) := (Gr.refl [kb] w4).setCell (p := ⟨kb, 8, none⟩) (.inl (by simp)) _
  have hs := H4.out.1.head.set 8 (.int .i64 ((c + 1 : Nat) : Int))
  exact ⟨rfl, H4.out.2.1.gr gs (fun x hx hy => by simp at hy; subst hy; exact H4.out.1.ka hx), H4.out.2.2.1.mono (by omega), ⟨hs, (H4.out.1.bk.moreN _ (by omega)).gr gs (fun x hx hy => by simp at hy; subst hy; exact H4.out.1.kq hx), H4.out.1.ok, H4.out.1.kq, H4.out.1.ka⟩, H4.out.2.2.2.trans (gs.mono (fun b hb => by simp at hb; subst hb; simp))⟩
end
section
variable {w w' : World} {kb : Nat} {q : BkA} {a : DevA} {P : PlanR} {B : BkS} {m j c cc : Nat} {D : DevS}
set_option maxRecDepth 100000 in
set_option maxHeartbeats 8000000 in
theorem change_w_mv {rc sc : Nat} (i : Nat) (s : ByteArray) {D1 D2 D3 : DevS} {B1 B2 B3 : BkS} (h : RgIs w kb q a P B m j c) (hd : DevIs w a D) (hb : Bd D cc) (hcc : cc < 550000000) (hm : m < 70000000) (hi : i < P.l) (hs : s.size ≤ maxLen) (r1 : w.cell? ⟨rc, 0, none⟩ = some (.pointer (some ⟨kb, 0, none⟩))) (s1 : w.cell? ⟨sc, 0, none⟩ = some (.string s)) (hrc : rc ∉ kb :: (q.all ++ a.all)) (hsc : sc ∉ kb :: (q.all ++ a.all))
    (hc : P.psi ≤ (c : Int)) (hj : j < 4294967295) (hn : (bankR P).a + sizeZ (bankR P) ≤ (D.n : Int)) (hn1 : D1.n = D.n) (hn2 : D2.n = D.n)
    (hR : (readR D (bankR P) B (fromI P j)).2 = 0) (hW : writeS (bankR P) (toI P j) (readR D (bankR P) B (fromI P j)).1 D B = (0, D1, B1)) (hV : writeWordS (bankR P) ((P.l : Int) + 1) 0 (pkN P (j + 1)) D1 B1 = (0, D2, B2)) (hO : writeS (bankR P) (slotJ P (j + 1) i) s D2 B2 = (0, D3, B3)) :
    Calls Tryz.prog 131 #[.pointer (some ⟨kb, 0, none⟩), .int .i64 (i : Int), (.func (.func 132) #[] #[.pointer (some ⟨rc, 0, none⟩), .pointer (some ⟨sc, 0, none⟩)])] w fun e w' => e = .returned (.int .i64 0) ∧ DevIs w' a D3 ∧ Bd D3 (cc + 4200) ∧ RgIs w' kb q a P B3 (m + 192) (j + 1) (0 + 1) ∧ Gr (kb :: (q.all ++ a.all)) w w' := by
  have HNF := Lib.hid (show (bankR P).a + sizeZ (bankR P) ≤ (D2.n : Int) by rw [hn2]; exact hn)
  have HF := Lib.hid (rfind_in i h hi)
  have HCl := Lib.hid (fun W (q1 : RgIs W kb q a P B2 (m + 128) (j + 1) 0) (q2 : DevIs W a D2) (q3 : Bd D2 (cc + 2800)) (q4 : W.cell? ⟨rc, 0, none⟩ = some (.pointer (some ⟨kb, 0, none⟩)) ∧ W.cell? ⟨sc, 0, none⟩ = some (.string s)) => show Calls Tryz.prog 132 #[.int .i64 (slotJ P (j + 1) i), .pointer (some ⟨rc, 0, none⟩), .pointer (some ⟨sc, 0, none⟩)] W _ from wr1_any (slotJ P (j + 1) i) s q1 q2 q3 (by omega) hs (by omega) q4.1 q4.2)
  rw [hO] at HCl
  have HSl := Lib.hid (fun W (q1 : RgIs W kb q a P B2 (m + 128) (j + 1) 0) => rslot_any i q1 hi)
  have HKp := Lib.hid (show ∀ (W W' : World) (bs : List Nat), (W.cell? ⟨rc, 0, none⟩ = some (.pointer (some ⟨kb, 0, none⟩)) ∧ W.cell? ⟨sc, 0, none⟩ = some (.string s)) → Gr bs W W' → (∀ x ∈ bs, x ∈ kb :: (q.all ++ a.all)) → (W'.cell? ⟨rc, 0, none⟩ = some (.pointer (some ⟨kb, 0, none⟩)) ∧ W'.cell? ⟨sc, 0, none⟩ = some (.string s)) from fun W W' bs q g hbs => by
    have hrc := fun e => hrc (hbs _ e)
    have hsc := fun e => hsc (hbs _ e)
    exact ⟨(cell_gr7 g (World.block_lt_of_cell? _ _ q.1) hrc).trans q.1, (cell_gr7 g (World.block_lt_of_cell? _ _ q.2) hsc).trans q.2⟩)
  have HC0 := Lib.hid (show w.cell? ⟨rc, 0, none⟩ = some (.pointer (some ⟨kb, 0, none⟩)) ∧ w.cell? ⟨sc, 0, none⟩ = some (.string s) from ⟨r1, s1⟩)
  have c8 := h.c8
  have c3 := h.c3
  have H := Lib.hid (And.intro h (And.intro hd hb))
  have HMv := Lib.hid (fun W (g : Gr [] w W) => rmove_ok (h.gr0 g) (hd.gr0 g) hb (by omega) (by omega) hj hn hn1 hR hW hV)
  have ik : P.psi ≤ (c : Int) := hc
  clear h hd hb hcc hm hi hc hn hO hs r1 s1 hrc hsc hj hn1 hn2 hR hW hV
  generalize hZ : slotJ P (j + 1) i = z at *
  clear hZ
  go_enter Tryz.func131, Tryz.ntmps131
  go_wp2_with fail
  refine HF.out.mono ?_
  rintro e w' ⟨rfl, rfl⟩
  go_wp2_with fail
  go_quiet (fail)
  have gq : Gr [] w' (w'.drewN nq) := (Gr.refl [] w').drewN nq
  have H1 := Lib.hid (And.intro (H.out.1.gr0 gq) (And.intro (H.out.2.1.gr0 gq) (And.intro H.out.2.2 (And.intro gq (HKp.out _ _ [] HC0.out gq (by simp))))))
  clear c8 c3 gq
  generalize w'.drewN nq = w1 at *
  go_wp2_with fail
  refine (HMv.out _ H1.out.2.2.2.1).mono ?_
  rintro e w2 ⟨rfl, d2, b2, r2, g2⟩
  have H2 := Lib.hid (And.intro r2 (And.intro d2 (And.intro b2 (And.intro ((H1.out.2.2.2.1.of0 (cs := kb :: (q.all ++ a.all))).trans g2) (HKp.out _ _ _ H1.out.2.2.2.2 g2 (fun x hx => hx))))))
  clear d2 b2 r2 g2 H1 HMv
  go_wp2_with fail
  refine (HSl.out _ H2.out.1).mono ?_
  rintro e w3 ⟨rfl, g3⟩
  have H3 := Lib.hid (And.intro (H2.out.1.gr0 g3) (And.intro (H2.out.2.1.gr0 g3) (And.intro H2.out.2.2.1 (And.intro (H2.out.2.2.2.1.next0 g3) (HKp.out _ _ [] H2.out.2.2.2.2 g3 (by simp))))))
  clear g3 H2
  go_wp2_with fail
  refine (HCl.out _ H3.out.1 H3.out.2.1 H3.out.2.2.1 H3.out.2.2.2.2).mono ?_
  rintro e w4 ⟨rfl, d4, b4, r4, g4⟩
  have H4 := Lib.hid (And.intro r4 (And.intro d4 (And.intro b4 (H3.out.2.2.2.1.trans (g4.mono (fun b hb => List.mem_cons_of_mem _ hb))))))
  clear d4 b4 r4 g4 H3
  have c8 := H4.out.1.c8
  have f8 : w4.frozen? ⟨kb, 8, none⟩ = false := H4.out.1.head.frozen 8
  go_wp2_with fail
  go_ret
  have gs : Gr [kb] w4 (w4.setCell ⟨kb, 8, none⟩ (.int .i64 ((0 + 1 : Nat) : Int))) := (Gr.refl [kb] w4).setCell (p := ⟨kb, 8, none⟩) (.inl (by simp)) _
  have hs := H4.out.1.head.set 8 (.int .i64 ((0 + 1 : Nat) : Int))
  exact ⟨rfl, H4.out.2.1.gr gs (fun x hx hy => by simp at hy; subst hy; exact H4.out.1.ka hx), H4.out.2.2.1.mono (by omega), ⟨hs, (H4.out.1.bk.moreN _ (by omega)).gr gs (fun x hx hy => by simp at hy; subst hy; exact H4.out.1.kq hx), H4.out.1.ok, H4.out.1.kq, H4.out.1.ka⟩, H4.out.2.2.2.trans (gs.mono (fun b hb => by simp at hb; subst hb; simp))⟩
end
section
variable {w w' : World} {kb : Nat} {q : BkA} {a : DevA} {P : PlanR} {B : BkS} {m j c cc : Nat} {D : DevS}
set_option maxRecDepth 100000 in
set_option maxHeartbeats 8000000 in
theorem change_ww_st {rc sk sv : Nat} (i : Nat) (k : Int) (v : Nat) {D3 : DevS} {B3 : BkS} (h : RgIs w kb q a P B m j c) (hd : DevIs w a D) (hb : Bd D cc) (hcc : cc < 550000000) (hm : m < 70000000) (hi : i < P.l) (hv : v < 18446744073709551616) (r1 : w.cell? ⟨rc, 0, none⟩ = some (.pointer (some ⟨kb, 0, none⟩))) (s1 : w.cell? ⟨sk, 0, none⟩ = some (.int .i64 k)) (s2 : w.cell? ⟨sv, 0, none⟩ = some (.int .u64 (v : Int))) (hrc : rc ∉ kb :: (q.all ++ a.all)) (hsk : sk ∉ kb :: (q.all ++ a.all)) (hsv : sv ∉ kb :: (q.all ++ a.all))
    (hc : (c : Int) < P.psi) (hn : (bankR P).a + sizeZ (bankR P) ≤ (D.n : Int)) (hO : writeWordS (bankR P) (slotJ P j i) k v D B = (0, D3, B3)) :
    Calls Tryz.prog 131 #[.pointer (some ⟨kb, 0, none⟩), .int .i64 (i : Int), (.func (.func 134) #[] #[.pointer (some ⟨rc, 0, none⟩), .pointer (some ⟨sk, 0, none⟩), .pointer (some ⟨sv, 0, none⟩)])] w fun e w' => e = .returned (.int .i64 0) ∧ DevIs w' a D3 ∧ Bd D3 (cc + 4200) ∧ RgIs w' kb q a P B3 (m + 192) j (c + 1) ∧ Gr (kb :: (q.all ++ a.all)) w w' := by
  have HNF := Lib.hid (show (bankR P).a + sizeZ (bankR P) ≤ (D.n : Int) from hn)
  have HF := Lib.hid (rfind_in i h hi)
  have HCl := Lib.hid (fun W (q1 : RgIs W kb q a P B m j c) (q2 : DevIs W a D) (q3 : Bd D cc) (q4 : W.cell? ⟨rc, 0, none⟩ = some (.pointer (some ⟨kb, 0, none⟩)) ∧ W.cell? ⟨sk, 0, none⟩ = some (.int .i64 k) ∧ W.cell? ⟨sv, 0, none⟩ = some (.int .u64 (v : Int))) => show Calls Tryz.prog 134 #[.int .i64 (slotJ P j i), .pointer (some ⟨rc, 0, none⟩), .pointer (some ⟨sk, 0, none⟩), .pointer (some ⟨sv, 0, none⟩)] W _ from ww1_any (slotJ P j i) k v q1 q2 q3 (by omega) hv HNF.out (by omega) q4.1 q4.2.1 q4.2.2)
  rw [hO] at HCl
  have HSl := Lib.hid (fun W (q1 : RgIs W kb q a P B m j c) => rslot_any i q1 hi)
  have HKp := Lib.hid (show ∀ (W W' : World) (bs : List Nat), (W.cell? ⟨rc, 0, none⟩ = some (.pointer (some ⟨kb, 0, none⟩)) ∧ W.cell? ⟨sk, 0, none⟩ = some (.int .i64 k) ∧ W.cell? ⟨sv, 0, none⟩ = some (.int .u64 (v : Int))) → Gr bs W W' → (∀ x ∈ bs, x ∈ kb :: (q.all ++ a.all)) → (W'.cell? ⟨rc, 0, none⟩ = some (.pointer (some ⟨kb, 0, none⟩)) ∧ W'.cell? ⟨sk, 0, none⟩ = some (.int .i64 k) ∧ W'.cell? ⟨sv, 0, none⟩ = some (.int .u64 (v : Int))) from fun W W' bs q g hbs => by
    have hrc := fun e => hrc (hbs _ e)
    have hsk := fun e => hsk (hbs _ e)
    have hsv := fun e => hsv (hbs _ e)
    exact ⟨(cell_gr7 g (World.block_lt_of_cell? _ _ q.1) hrc).trans q.1, (cell_gr7 g (World.block_lt_of_cell? _ _ q.2.1) hsk).trans q.2.1, (cell_gr7 g (World.block_lt_of_cell? _ _ q.2.2) hsv).trans q.2.2⟩)
  have HC0 := Lib.hid (show w.cell? ⟨rc, 0, none⟩ = some (.pointer (some ⟨kb, 0, none⟩)) ∧ w.cell? ⟨sk, 0, none⟩ = some (.int .i64 k) ∧ w.cell? ⟨sv, 0, none⟩ = some (.int .u64 (v : Int)) from ⟨r1, s1, s2⟩)
  have c8 := h.c8
  have c3 := h.c3
  have H := Lib.hid (And.intro h (And.intro hd hb))
  have ik : ¬ (P.psi ≤ (c : Int)) := by omega
  have hc9 : c ≤ 65535 := by have := h.ok.p2; omega
  clear h hd hb hcc hm hi hc hn hO hv r1 s1 s2 hrc hsk hsv 
  generalize hZ : slotJ P j i = z at *
  clear hZ
  go_enter Tryz.func131, Tryz.ntmps131
  go_wp2_with fail
  refine HF.out.mono ?_
  rintro e w' ⟨rfl, rfl⟩
  go_wp2_with fail
  go_quiet (fail)
  have gq : Gr [] w' (w'.drewN nq) := (Gr.refl [] w').drewN nq
  have H1 := Lib.hid (And.intro (H.out.1.gr0 gq) (And.intro (H.out.2.1.gr0 gq) (And.intro H.out.2.2 (And.intro gq (HKp.out _ _ [] HC0.out gq (by simp))))))
  clear c8 c3 gq
  generalize w'.drewN nq = w1 at *
  go_wp2_with fail
  have H2 := Lib.hid (And.intro H1.out.1 (And.intro H1.out.2.1 (And.intro H1.out.2.2.1 (And.intro (H1.out.2.2.2.1.of0 (cs := kb :: (q.all ++ a.all))) H1.out.2.2.2.2))))
  clear H1
  generalize w1 = w2 at *
  refine (HSl.out _ H2.out.1).mono ?_
  rintro e w3 ⟨rfl, g3⟩
  have H3 := Lib.hid (And.intro (H2.out.1.gr0 g3) (And.intro (H2.out.2.1.gr0 g3) (And.intro H2.out.2.2.1 (And.intro (H2.out.2.2.2.1.next0 g3) (HKp.out _ _ [] H2.out.2.2.2.2 g3 (by simp))))))
  clear g3 H2
  go_wp2_with fail
  refine (HCl.out _ H3.out.1 H3.out.2.1 H3.out.2.2.1 H3.out.2.2.2.2).mono ?_
  rintro e w4 ⟨rfl, d4, b4, r4, g4⟩
  have H4 := Lib.hid (And.intro r4 (And.intro d4 (And.intro b4 (H3.out.2.2.2.1.trans (g4.mono (fun b hb => List.mem_cons_of_mem _ hb))))))
  clear d4 b4 r4 g4 H3
  have c8 := H4.out.1.c8
  have f8 : w4.frozen? ⟨kb, 8, none⟩ = false := H4.out.1.head.frozen 8
  go_wp2_with fail
  go_ret
  have gs : Gr [kb] w4 (w4.setCell ⟨kb, 8, none⟩ (.int .i64 ((c + 1 : Nat) : Int))) := (Gr.refl [kb] w4).setCell (p := ⟨kb, 8, none⟩) (.inl (by simp)) _
  have hs := H4.out.1.head.set 8 (.int .i64 ((c + 1 : Nat) : Int))
  exact ⟨rfl, H4.out.2.1.gr gs (fun x hx hy => by simp at hy; subst hy; exact H4.out.1.ka hx), H4.out.2.2.1.mono (by omega), ⟨hs, (H4.out.1.bk.moreN _ (by omega)).gr gs (fun x hx hy => by simp at hy; subst hy; exact H4.out.1.kq hx), H4.out.1.ok, H4.out.1.kq, H4.out.1.ka⟩, H4.out.2.2.2.trans (gs.mono (fun b hb => by simp at hb; subst hb; simp))⟩
end
section
variable {w w' : World} {kb : Nat} {q : BkA} {a : DevA} {P : PlanR} {B : BkS} {m j c cc : Nat} {D : DevS}
set_option maxRecDepth 100000 in
set_option maxHeartbeats 8000000 in
theorem change_ww_mv {rc sk sv : Nat} (i : Nat) (k : Int) (v : Nat) {D1 D2 D3 : DevS} {B1 B2 B3 : BkS} (h : RgIs w kb q a P B m j c) (hd : DevIs w a D) (hb : Bd D cc) (hcc : cc < 550000000) (hm : m < 70000000) (hi : i < P.l) (hv : v < 18446744073709551616) (r1 : w.cell? ⟨rc, 0, none⟩ = some (.pointer (some ⟨kb, 0, none⟩))) (s1 : w.cell? ⟨sk, 0, none⟩ = some (.int .i64 k)) (s2 : w.cell? ⟨sv, 0, none⟩ = some (.int .u64 (v : Int))) (hrc : rc ∉ kb :: (q.all ++ a.all)) (hsk : sk ∉ kb :: (q.all ++ a.all)) (hsv : sv ∉ kb :: (q.all ++ a.all))
    (hc : P.psi ≤ (c : Int)) (hj : j < 4294967295) (hn : (bankR P).a + sizeZ (bankR P) ≤ (D.n : Int)) (hn1 : D1.n = D.n) (hn2 : D2.n = D.n)
    (hR : (readR D (bankR P) B (fromI P j)).2 = 0) (hW : writeS (bankR P) (toI P j) (readR D (bankR P) B (fromI P j)).1 D B = (0, D1, B1)) (hV : writeWordS (bankR P) ((P.l : Int) + 1) 0 (pkN P (j + 1)) D1 B1 = (0, D2, B2)) (hO : writeWordS (bankR P) (slotJ P (j + 1) i) k v D2 B2 = (0, D3, B3)) :
    Calls Tryz.prog 131 #[.pointer (some ⟨kb, 0, none⟩), .int .i64 (i : Int), (.func (.func 134) #[] #[.pointer (some ⟨rc, 0, none⟩), .pointer (some ⟨sk, 0, none⟩), .pointer (some ⟨sv, 0, none⟩)])] w fun e w' => e = .returned (.int .i64 0) ∧ DevIs w' a D3 ∧ Bd D3 (cc + 4200) ∧ RgIs w' kb q a P B3 (m + 192) (j + 1) (0 + 1) ∧ Gr (kb :: (q.all ++ a.all)) w w' := by
  have HNF := Lib.hid (show (bankR P).a + sizeZ (bankR P) ≤ (D2.n : Int) by rw [hn2]; exact hn)
  have HF := Lib.hid (rfind_in i h hi)
  have HCl := Lib.hid (fun W (q1 : RgIs W kb q a P B2 (m + 128) (j + 1) 0) (q2 : DevIs W a D2) (q3 : Bd D2 (cc + 2800)) (q4 : W.cell? ⟨rc, 0, none⟩ = some (.pointer (some ⟨kb, 0, none⟩)) ∧ W.cell? ⟨sk, 0, none⟩ = some (.int .i64 k) ∧ W.cell? ⟨sv, 0, none⟩ = some (.int .u64 (v : Int))) => show Calls Tryz.prog 134 #[.int .i64 (slotJ P (j + 1) i), .pointer (some ⟨rc, 0, none⟩), .pointer (some ⟨sk, 0, none⟩), .pointer (some ⟨sv, 0, none⟩)] W _ from ww1_any (slotJ P (j + 1) i) k v q1 q2 q3 (by omega) hv HNF.out (by omega) q4.1 q4.2.1 q4.2.2)
  rw [hO] at HCl
  have HSl := Lib.hid (fun W (q1 : RgIs W kb q a P B2 (m + 128) (j + 1) 0) => rslot_any i q1 hi)
  have HKp := Lib.hid (show ∀ (W W' : World) (bs : List Nat), (W.cell? ⟨rc, 0, none⟩ = some (.pointer (some ⟨kb, 0, none⟩)) ∧ W.cell? ⟨sk, 0, none⟩ = some (.int .i64 k) ∧ W.cell? ⟨sv, 0, none⟩ = some (.int .u64 (v : Int))) → Gr bs W W' → (∀ x ∈ bs, x ∈ kb :: (q.all ++ a.all)) → (W'.cell? ⟨rc, 0, none⟩ = some (.pointer (some ⟨kb, 0, none⟩)) ∧ W'.cell? ⟨sk, 0, none⟩ = some (.int .i64 k) ∧ W'.cell? ⟨sv, 0, none⟩ = some (.int .u64 (v : Int))) from fun W W' bs q g hbs => by
    have hrc := fun e => hrc (hbs _ e)
    have hsk := fun e => hsk (hbs _ e)
    have hsv := fun e => hsv (hbs _ e)
    exact ⟨(cell_gr7 g (World.block_lt_of_cell? _ _ q.1) hrc).trans q.1, (cell_gr7 g (World.block_lt_of_cell? _ _ q.2.1) hsk).trans q.2.1, (cell_gr7 g (World.block_lt_of_cell? _ _ q.2.2) hsv).trans q.2.2⟩)
  have HC0 := Lib.hid (show w.cell? ⟨rc, 0, none⟩ = some (.pointer (some ⟨kb, 0, none⟩)) ∧ w.cell? ⟨sk, 0, none⟩ = some (.int .i64 k) ∧ w.cell? ⟨sv, 0, none⟩ = some (.int .u64 (v : Int)) from ⟨r1, s1, s2⟩)
  have c8 := h.c8
  have c3 := h.c3
  have H := Lib.hid (And.intro h (And.intro hd hb))
  have HMv := Lib.hid (fun W (g : Gr [] w W) => rmove_ok (h.gr0 g) (hd.gr0 g) hb (by omega) (by omega) hj hn hn1 hR hW hV)
  have ik : P.psi ≤ (c : Int) := hc
  clear h hd hb hcc hm hi hc hn hO hv r1 s1 s2 hrc hsk hsv hj hn1 hn2 hR hW hV
  generalize hZ : slotJ P (j + 1) i = z at *
  clear hZ
  go_enter Tryz.func131, Tryz.ntmps131
  go_wp2_with fail
  refine HF.out.mono ?_
  rintro e w' ⟨rfl, rfl⟩
  go_wp2_with fail
  go_quiet (fail)
  have gq : Gr [] w' (w'.drewN nq) := (Gr.refl [] w').drewN nq
  have H1 := Lib.hid (And.intro (H.out.1.gr0 gq) (And.intro (H.out.2.1.gr0 gq) (And.intro H.out.2.2 (And.intro gq (HKp.out _ _ [] HC0.out gq (by simp))))))
  clear c8 c3 gq
  generalize w'.drewN nq = w1 at *
  go_wp2_with fail
  refine (HMv.out _ H1.out.2.2.2.1).mono ?_
  rintro e w2 ⟨rfl, d2, b2, r2, g2⟩
  have H2 := Lib.hid (And.intro r2 (And.intro d2 (And.intro b2 (And.intro ((H1.out.2.2.2.1.of0 (cs := kb :: (q.all ++ a.all))).trans g2) (HKp.out _ _ _ H1.out.2.2.2.2 g2 (fun x hx => hx))))))
  clear d2 b2 r2 g2 H1 HMv
  go_wp2_with fail
  refine (HSl.out _ H2.out.1).mono ?_
  rintro e w3 ⟨rfl, g3⟩
  have H3 := Lib.hid (And.intro (H2.out.1.gr0 g3) (And.intro (H2.out.2.1.gr0 g3) (And.intro H2.out.2.2.1 (And.intro (H2.out.2.2.2.1.next0 g3) (HKp.out _ _ [] H2.out.2.2.2.2 g3 (by simp))))))
  clear g3 H2
  go_wp2_with fail
  refine (HCl.out _ H3.out.1 H3.out.2.1 H3.out.2.2.1 H3.out.2.2.2.2).mono ?_
  rintro e w4 ⟨rfl, d4, b4, r4, g4⟩
  have H4 := Lib.hid (And.intro r4 (And.intro d4 (And.intro b4 (H3.out.2.2.2.1.trans (g4.mono (fun b hb => List.mem_cons_of_mem _ hb))))))
  clear d4 b4 r4 g4 H3
  have c8 := H4.out.1.c8
  have f8 : w4.frozen? ⟨kb, 8, none⟩ = false := H4.out.1.head.frozen 8
  go_wp2_with fail
  go_ret
  have gs : Gr [kb] w4 (w4.setCell ⟨kb, 8, none⟩ (.int .i64 ((0 + 1 : Nat) : Int))) := (Gr.refl [kb] w4).setCell (p := ⟨kb, 8, none⟩) (.inl (by simp)) _
  have hs := H4.out.1.head.set 8 (.int .i64 ((0 + 1 : Nat) : Int))
  exact ⟨rfl, H4.out.2.1.gr gs (fun x hx hy => by simp at hy; subst hy; exact H4.out.1.ka hx), H4.out.2.2.1.mono (by omega), ⟨hs, (H4.out.1.bk.moreN _ (by omega)).gr gs (fun x hx hy => by simp at hy; subst hy; exact H4.out.1.kq hx), H4.out.1.ok, H4.out.1.kq, H4.out.1.ka⟩, H4.out.2.2.2.trans (gs.mono (fun b hb => by simp at hb; subst hb; simp))⟩
end
end Go.Proofs.YtifekejcbhllpaaGreat
