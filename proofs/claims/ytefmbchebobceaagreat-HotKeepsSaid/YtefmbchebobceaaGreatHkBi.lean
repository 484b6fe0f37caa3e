/-
  HkBi: HtK, HtL, HtM, HtN.
-/
import Derived.Test.YtefmbchebobceaaGreatHkBh
import Derived.Test.YtefmbchebobceaaGreatHkAi

set_option linter.unusedVariables false

/-
  Layer 10: a line of a page is written.
-/
namespace Go.Proofs.YtefmbchebobceaaGreat
open Go.RowKit
set_option linter.unusedVariables false

def htS (S : HtS) (g v : Nat) : HtS := ⟨S.fr, S.mv, updN S.ht g v, S.tk⟩
section
variable {w w' : World} {X : HtA} {A : FlA} {a : DevA} {C : CfgZ} {F F' : Nat → Nat → Nat} {V V' : FlV} {c c' : Nat → Nat} {N N' lim : Nat} {S : HtS}
theorem HtIs.more (h : HtIs w X A a C F V c N lim S) (hN : N ≤ N') : HtIs w X A a C F V c N' lim S :=
  ⟨h.fl.more hN, h.pos, h.head, h.pls, h.hts, h.tks, h.na, h.nd, h.cap, h.inv, h.tab, fun g hg => Nat.le_trans (h.mvb g hg) hN, h.htb⟩
theorem HtIs.setHt (h : HtIs w X A a C F V c N lim S) {g : Nat} (v : Nat) (hv : v ≤ lim) : HtIs (w.setCell ⟨X.hb, g, none⟩ (.int .i64 (v : Int))) X A a C F V c N lim (htS S g v) := by
  obtain ⟨c1, q1, q2⟩ := h.pls
  obtain ⟨c2, q3, q4⟩ := h.hts
  obtain ⟨c3, q5, q6⟩ := h.tks
  have nd := h.nd
  have gr : Gr [X.hb] w (w.setCell ⟨X.hb, g, none⟩ (.int .i64 (v : Int))) := (Gr.refl [X.hb] w).setCell (p := ⟨X.hb, g, none⟩) (.inl (by simp)) _
  refine ⟨h.fl.gr gr (fun x hx e => ?_), h.pos, h.head.far (a := ⟨X.hb, g, none⟩) nd.2.1 _, ⟨c1, q1.far (a := ⟨X.hb, g, none⟩) nd.2.2.2.1 _, q2⟩, ⟨_, q3.set g _, fun g2 h2 => ?_⟩, ⟨c3, q5.far (a := ⟨X.hb, g, none⟩) (fun e => nd.2.2.2.2.2 e.symm) _, q6⟩, h.na, nd, h.cap, ⟨h.inv.lt, h.inv.inj, h.inv.tk⟩, h.tab, h.mvb, fun g2 h2 => ?_⟩
  · have : x = X.hb := by simpa using e
    subst this
    exact h.na _ (by simp [HtA.all]) hx
  · have v0 := q4 g2 h2
    have b0 := (Array.getElem?_eq_some_iff.1 v0).1
    show (c2.setIfInBounds g (.int .i64 (v : Int)))[g2]? = some (.int .i64 ((updN S.ht g v g2 : Nat) : Int))
    rw [Array.getElem?_setIfInBounds]
    by_cases e : g2 = g
    · subst e
      rw [if_pos rfl, if_pos b0, updN_same]
    · rw [if_neg (fun e2 => e e2.symm), updN_other _ _ e]
      exact v0
  · show updN S.ht g v g2 ≤ lim
    by_cases e : g2 = g
    · subst e
      rw [updN_same]
      exact hv
    · rw [updN_other _ _ e]
      exact h.htb g2 h2
set_option maxRecDepth 100000 in
set_option maxHeartbeats 8000000 in
theorem hwr1_any {rc sc : Nat} (h : HtIs w X A a C F V c N lim S) (hN : N < 490000000) (g k : Nat) (hg : g < pgC C) (hk : k < 8) (s : ByteArray) (hs : s.size = 64) (r1 : w.cell? ⟨rc, 0, none⟩ = some (.pointer (some ⟨X.pb, 0, none⟩))) (s1 : w.cell? ⟨sc, 0, none⟩ = some (.string s)) :
    Calls Tryz.prog 59 #[.int .i64 ((8 * S.fr g + k : Nat) : Int), .pointer (some ⟨rc, 0, none⟩), .pointer (some ⟨sc, 0, none⟩)] w fun e w' => ∃ V' : FlV, e = .returned (.int .i64 0) ∧ V'.J = stJ10 C (qL C (8 * S.fr g + k)) V.J c ∧ HtIs w' X A a C (fun l2 m => if l2 = 8 * S.fr g + k then wdL s.data.toList m else F l2 m) V' (stC10 C (qL C (8 * S.fr g + k)) c) (N + 4200) lim S ∧ Gr (A.all (cR C) ++ a.all) w w' := by
  have hC := h.fl.ok
  obtain ⟨n1, n2, n3, n4, n5, n6⟩ := pg_nums hC h.pos
  have hf := h.inv.lt g hg
  have HW := Lib.hid (fun W (g1 : Gr [] w W) => (h.gr0 g1).fl.put hN (8 * S.fr g + k) (by omega) s hs)
  have H := Lib.hid (And.intro h (show ∀ g2, g2 < pgC C → ¬ g2 / 8 = 8 * S.fr g + k from fun g2 h2 => by omega))
  obtain ⟨l, hl⟩ : ∃ l, l = 8 * S.fr g + k := ⟨_, rfl⟩
  rw [← hl] at HW H ⊢
  have k4 := kp_cell (a := ⟨X.pb, 0, none⟩) h.hc.1
  have kr := kp_cell r1
  have ks := kp_cell s1
  have hne := kp_ne w
  clear h hC n1 n2 n3 n4 n5 n6 hf hl r1 s1
  go_enter Tryz.func59, Tryz.ntmps59
  go_wp2_with fail
  refine wp_region_kp_tail 6 (by kernel_rfl) (by kernel_rfl) ?_
  simp only [List.take_succ_cons, List.take_zero, List.drop_succ_cons, List.drop_zero]
  repeat (go_big_quiet_step (fail))
  with_reducible refine wpQuiet_nil ?_
  rintro _ ⟨y, rfl⟩
  have HG := Lib.hid (Gr.ofBelow (cs := []) y.h)
  clear k4 kr ks hne
  generalize y.w = w2 at *
  go_wp2_with fail
  refine (HW.out _ HG.out).mono ?_
  rintro e w3 ⟨V', rfl, e3, f3, g3⟩
  have H3 := Lib.hid (And.intro e3 (And.intro ((H.out.1.gr0 HG.out).setF g3 f3 (fun g2 h2 => by rw [if_neg (H.out.2 g2 h2)]) (by omega)) ((HG.out.of0 (cs := A.all (cR C) ++ a.all)).trans g3)))
  clear e3 f3 g3
  go_wp2_with fail
  go_ret
  exact ⟨V', rfl, H3.out.1, H3.out.2.1, H3.out.2.2⟩
inductive Ahead (C : CfgZ) (lim g : Nat) (S : HtS) (F : Nat → Nat → Nat) (V : FlV) (c : Nat → Nat) (S1 : HtS) (F1 : Nat → Nat → Nat) (V1 : FlV) (c1 : Nat → Nat) : Prop
  | cold : S.ht g < lim → S1 = S → F1 = F → V1 = V → c1 = c → Ahead C lim g S F V c S1 F1 V1 c1
  | hot (S0 : HtS) : lim ≤ S.ht g → Looked C S V.J g F V c S0 F1 V1 c1 → S1 = htS S0 g 0 → Ahead C lim g S F V c S1 F1 V1 c1
theorem Ahead.same {S1 : HtS} {F1 : Nat → Nat → Nat} {V1 : FlV} {c1 : Nat → Nat} {g : Nat} (h : Ahead C lim g S F V c S1 F1 V1 c1) (hl : 1 ≤ lim) : (∀ g2 k m, g2 < pgC C → k < 8 → F1 (8 * S1.fr g2 + k) m = F (8 * S.fr g2 + k) m) ∧ S1.ht g < lim := by
  cases h with
  | cold h1 h2 h3 h4 h5 => rw [h2, h3]; exact ⟨fun _ _ _ _ _ => rfl, h1⟩
  | hot S0 h1 h2 h3 => rw [h3]; exact ⟨h2.same.1, by show updN S0.ht g 0 g < lim; rw [updN_same]; omega⟩
set_option maxRecDepth 100000 in
set_option maxHeartbeats 16000000 in
theorem hchange_any {rc sc : Nat} (h : HtIs w X A a C F V c N lim S) (hl : 1 ≤ lim) (hl2 : lim < 1000000) (hN : N < 400000000) (g k : Nat) (hg : g < pgC C) (hk : k < 8) (s : ByteArray) (hs : s.size = 64) (r1 : w.cell? ⟨rc, 0, none⟩ = some (.pointer (some ⟨X.pb, 0, none⟩))) (s1 : w.cell? ⟨sc, 0, none⟩ = some (.string s)) (hrc : rc ∉ X.all ++ (A.all (cR C) ++ a.all)) (hsc : sc ∉ X.all ++ (A.all (cR C) ++ a.all)) :
    Calls Tryz.prog 58 #[.pointer (some ⟨X.pb, 0, none⟩), .int .i64 (g : Int), .int .i64 (k : Int), (.func (.func 59) #[] #[.pointer (some ⟨rc, 0, none⟩), .pointer (some ⟨sc, 0, none⟩)])] w fun e w' => ∃ (F1 : Nat → Nat → Nat) (V1 V2 : FlV) (c1 : Nat → Nat) (S1 : HtS), e = .returned (.int .i64 0) ∧ Ahead C lim g S F V c S1 F1 V1 c1 ∧ V2.J = stJ10 C (qL C (8 * S1.fr g + k)) V1.J c1 ∧ HtIs w' X A a C (fun l2 m => if l2 = 8 * S1.fr g + k then wdL s.data.toList m else F1 l2 m) V2 (stC10 C (qL C (8 * S1.fr g + k)) c1) (N + 42000) lim (htS S1 g (S1.ht g + 1)) ∧ Gr (X.all ++ (A.all (cR C) ++ a.all)) w w' := by
  have HF0 := Lib.hid (hfind_in h g k hg hk)
  have H0 := Lib.hid h
  have HCl := Lib.hid (show w.cell? ⟨rc, 0, none⟩ = some (.pointer (some ⟨X.pb, 0, none⟩)) ∧ w.cell? ⟨sc, 0, none⟩ = some (.string s) from ⟨r1, s1⟩)
  have HKp := Lib.hid (show ∀ (W W' : World), (W.cell? ⟨rc, 0, none⟩ = some (.pointer (some ⟨X.pb, 0, none⟩)) ∧ W.cell? ⟨sc, 0, none⟩ = some (.string s)) → ∀ bs, Gr bs W W' → (∀ x ∈ bs, x ∈ X.all ++ (A.all (cR C) ++ a.all)) → (W'.cell? ⟨rc, 0, none⟩ = some (.pointer (some ⟨X.pb, 0, none⟩)) ∧ W'.cell? ⟨sc, 0, none⟩ = some (.string s)) from fun W W' q bs g hbs => by
    have hrc := fun e => hrc (hbs _ e)
    have hsc := fun e => hsc (hbs _ e)
    exact ⟨(cell_gr7 g (World.block_lt_of_cell? _ _ q.1) hrc).trans q.1, (cell_gr7 g (World.block_lt_of_cell? _ _ q.2) hsc).trans q.2⟩)
  have HP := Lib.hid (And.intro hg (And.intro hk (And.intro hs (And.intro hl (And.intro hl2 hN)))))
  have hht := h.htb g hg
  have hG7 : pgC C ≤ 2048 := by have := pg_nums h.fl.ok h.pos; omega
  obtain ⟨G, hG⟩ : ∃ G, G = pgC C := ⟨_, rfl⟩
  have HGG := Lib.hid hG
  obtain ⟨T, hT⟩ : ∃ T, T = S.ht g := ⟨_, rfl⟩
  have c6 := h.hc.2.2.2.2.2.1
  have c4 := h.hc.2.2.2.1
  obtain ⟨t0, t1⟩ := h.htAt hg
  rw [← hT] at t0 hht
  have HT := Lib.hid hT
  rw [← hG] at c6
  have g1 : (g : Int) < (G : Int) := by omega
  have g0 : (0 : Int) ≤ (g : Int) := by omega
  have k6 := kp_cell c6
  have k4 := kp_cell c4
  have kt := kp_cell t0
  have hne := kp_ne w
  clear h r1 s1 hrc hsc hs hN hT t1 c6 c4 t0
  go_enter Tryz.func58, Tryz.ntmps58
  go_wp2_with fail
  refine HF0.out.mono ?_
  rintro e w2 ⟨rfl, rfl⟩
  go_upto_region 4 with fail
  refine wp_region_kp (by kernel_rfl) (by kernel_rfl) ?_
  repeat (go_big_quiet_step (fail))
  with_reducible refine wpQuiet_nil ?_
  rintro _ ⟨y, rfl⟩
  have gy := Lib.hid (Gr.ofBelow (cs := []) y.h)
  clear k6 k4 kt hne HF0
  generalize y.w = w3 at *
  clear y
  go_upto_if 36 with fail
  go_cut [11] (fun _ wz => ∃ (F1 : Nat → Nat → Nat) (V1 : FlV) (c1 : Nat → Nat) (S1 : HtS), Ahead C lim g S F V c S1 F1 V1 c1 ∧ HtIs wz X A a C F1 V1 c1 (N + 37800) lim S1 ∧ (wz.cell? ⟨rc, 0, none⟩ = some (.pointer (some ⟨X.pb, 0, none⟩)) ∧ wz.cell? ⟨sc, 0, none⟩ = some (.string s)) ∧ Gr (X.all ++ (A.all (cR C) ++ a.all)) w2 wz)
  case first =>
    by_cases hcm : lim ≤ T
    · as_aux_lemma =>
        have hcb : decide (lim ≤ T) = true := decide_eq_true hcm
        have HC := Lib.hid hcm
        have HEx := Lib.hid (hexam_any (H0.out.gr0 gy.out) (by have := HP.out.2.2.2.2.2; omega) g hg)
        clear hcm
        go_wp2_with fail
        refine HEx.out.mono ?_
        rintro e w5 ⟨F1, V1, c1, S0, rfl, h5, x5, g5⟩
        have H5 := Lib.hid (And.intro h5 (And.intro x5 ((gy.out.of0 (cs := X.all ++ (A.all (cR C) ++ a.all))).trans g5)))
        have hcl5 := Lib.hid (HKp.out _ _ (HKp.out _ _ HCl.out _ gy.out (by simp)) _ g5 (fun x hx => hx))
        have c6 : w5.cell? ⟨X.pb, 6, none⟩ = some (.slice (some ⟨X.hb, 0, none⟩) (pgC C) (pgC C)) := h5.hc.2.2.2.2.2.1
        rw [← HGG.out] at c6
        obtain ⟨t0, t1⟩ := h5.htAt hg
        generalize S0.ht g = T0 at *
        have HZ := Lib.hid (h5.setHt (g := g) 0 (Nat.zero_le _))
        have HZG := Lib.hid (show Gr [X.hb] w5 (w5.setCell ⟨X.hb, g, none⟩ (.int .i64 ((0 : Nat) : Int))) from (Gr.refl [X.hb] w5).setCell (p := ⟨X.hb, g, none⟩) (.inl (by simp)) _)
        clear h5 x5 g5 HEx hcb
        go_wp2_with fail
        clear c6 t0 t1
        go_meet
        refine ⟨F1, V1, c1, htS S0 g 0, .hot S0 (by rw [← HT.out]; exact HC.out) H5.out.2.1 rfl, HZ.out, HKp.out _ _ hcl5.out _ HZG.out (fun x hx => by have : x = X.hb := (by simpa using hx); subst this; simp [HtA.all]), H5.out.2.2.nextN HZG.out (fun x hx => by have : x = X.hb := (by simpa using hx); subst this; simp [HtA.all])⟩
    · have hcb : decide (lim ≤ T) = false := decide_eq_false hcm
      have HC := Lib.hid hcm
      clear hcm
      go_wp2_with fail
      go_meet
      exact ⟨F, V, c, S, .cold (by rw [← HT.out]; have := HC.out; omega) rfl rfl rfl rfl, (H0.out.gr0 gy.out).more (by omega), HKp.out _ _ HCl.out _ gy.out (by simp), gy.out.of0⟩
  case rest =>
    obtain ⟨F1, V1, c1, S1, k1, k2, k3, k4⟩ := hcut
    obtain ⟨wy, hwy⟩ : ∃ wy, wy = wc := ⟨_, rfl⟩
    rw [← hwy] at k2 k3 k4 ⊢
    have HA := Lib.hid k1
    have H5 := Lib.hid (And.intro k2 (And.intro k3 k4))
    have HF1 := Lib.hid (hfind_in k2 g k hg hk)
    have HW1 := Lib.hid (hwr1_any k2 (by have := HP.out.2.2.2.2.2; omega) g k hg hk s HP.out.2.2.1 k3.1 k3.2)
    clear hwy k1 k2 k3 k4 gy HT HCl
    obtain ⟨l, hl0⟩ : ∃ l, l = 8 * S1.fr g + k := ⟨_, rfl⟩
    rw [← hl0] at HF1 HW1
    have HL := Lib.hid hl0
    clear hl0
    go_wp2_with fail
    refine HF1.out.mono ?_
    rintro e w6 ⟨rfl, rfl⟩
    go_wp2_with fail
    refine HW1.out.mono ?_
    rintro e w7 ⟨V2, rfl, e7, h7, g7⟩
    obtain ⟨t0, t1⟩ := h7.htAt hg
    have c6 : w7.cell? ⟨X.pb, 6, none⟩ = some (.slice (some ⟨X.hb, 0, none⟩) (pgC C) (pgC C)) := h7.hc.2.2.2.2.2.1
    rw [← HGG.out] at c6
    have hlt := HA.out.same hl
    obtain ⟨T1, hT1⟩ : ∃ T1, T1 = S1.ht g := ⟨_, rfl⟩
    obtain ⟨T2, hT2⟩ : ∃ T2, T2 = S1.ht g + 1 := ⟨_, rfl⟩
    rw [← hT1] at t0
    have wt : IntKind.i64.wrap ((T1 : Int) + 1) = (T2 : Int) := by rw [show (T1 : Int) + 1 = (T2 : Int) by omega]; exact IntWalk.i64_in _ (by omega)
    have HZ := Lib.hid (h7.setHt (g := g) T2 (by omega))
    have HZG := Lib.hid (show Gr [X.hb] w7 (w7.setCell ⟨X.hb, g, none⟩ (.int .i64 (T2 : Int))) from (Gr.refl [X.hb] w7).setCell (p := ⟨X.hb, g, none⟩) (.inl (by simp)) _)
    have H7 := Lib.hid (And.intro e7 (H5.out.2.2.trans (g7.mono (fun x hx => List.mem_append.2 (.inr hx)))))
    have HT2 := Lib.hid hT2
    clear e7 h7 g7 hT1 hT2 hlt HW1 HF1 H5
    go_wp2_with fail
    clear c6 t0 t1 wt
    go_ret
    refine ⟨F1, V1, V2, c1, S1, rfl, HA.out, ?_, ?_, H7.out.2.nextN HZG.out (fun x hx => by have : x = X.hb := (by simpa using hx); subst this; simp [HtA.all])⟩
    · rw [← HL.out]
      exact H7.out.1
    · rw [← HL.out, ← HT2.out]
      exact HZ.out.more (by omega)
end
end Go.Proofs.YtefmbchebobceaaGreat

/-
  Layer 10: Write; pages told by what they read.
-/
namespace Go.Proofs.YtefmbchebobceaaGreat
open Go.RowKit
set_option linter.unusedVariables false

section
variable {w w' : World} {X : HtA} {A : FlA} {a : DevA} {C : CfgZ} {F F' : Nat → Nat → Nat} {V V' : FlV} {c c' : Nat → Nat} {N N' lim : Nat} {S : HtS}
theorem hwrite_in (h : HtIs w X A a C F V c N lim S) (hl : 1 ≤ lim) (hl2 : lim < 1000000) (hN : N < 400000000) (g k : Nat) (hg : g < pgC C) (hk : k < 8) (s : ByteArray) (hs : s.size = 64) :
    Calls Tryz.prog 20 #[.pointer (some ⟨X.pb, 0, none⟩), .int .i64 (g : Int), .int .i64 (k : Int), .string s] w fun e w' => ∃ (F1 : Nat → Nat → Nat) (V1 V2 : FlV) (c1 : Nat → Nat) (S1 : HtS), e = .returned (.int .i64 0) ∧ Ahead C lim g S F V c S1 F1 V1 c1 ∧ V2.J = stJ10 C (qL C (8 * S1.fr g + k)) V1.J c1 ∧ HtIs w' X A a C (fun l2 m => if l2 = 8 * S1.fr g + k then wdL s.data.toList m else F1 l2 m) V2 (stC10 C (qL C (8 * S1.fr g + k)) c1) (N + 42000) lim (htS S1 g (S1.ht g + 1)) ∧ Gr (X.all ++ (A.all (cR C) ++ a.all)) w w' := by
  have hs1 : ((s.size : Int) != 64) = false := by rw [hs]; rfl
  have hs2 : (s.size != 64) = false := by rw [hs]; rfl
  have ga := (Gr.refl [] w).alloc (Obj.cells #[.pointer (some ⟨X.pb, 0, none⟩)] 42)
  have gb := ga.alloc (Obj.cells #[.string s] 9)
  have h1 := (Holds.new w #[.pointer (some ⟨X.pb, 0, none⟩)] 42).alloc (Obj.cells #[.string s] 9)
  have h2 := Holds.new (w.alloc (Obj.cells #[.pointer (some ⟨X.pb, 0, none⟩)] 42)) #[.string s] 9
  have hsz : (w.alloc (Obj.cells #[.pointer (some ⟨X.pb, 0, none⟩)] 42)).heap.size = w.heap.size + 1 := World.size_alloc _ _
  rw [hsz] at h2
  have HC := Lib.hid (hchange_any (rc := w.heap.size) (sc := w.heap.size + 1) (h.gr0 gb) hl hl2 hN g k hg hk s hs (h1.cell 0) (h2.cell 0) (fun e => by have := h.lt _ e; omega) (fun e => by have := h.lt _ e; omega))
  have c0 := h1.cell 0
  have c1 := h2.cell 0
  have HG := Lib.hid gb
  clear h hl hl2 hN hg hk hs ga gb h1 h2 hsz
  go_enter Tryz.func20, Tryz.ntmps20
  go_upto_region 1 with fail
  generalize ((w.alloc (Obj.cells #[.pointer (some ⟨X.pb, 0, none⟩)] 42)).alloc (Obj.cells #[.string s] 9)) = w1 at *
  go_wp2_with fail
  refine HC.out.mono ?_
  rintro e w2 ⟨F1, V1, V2, c1', S1, rfl, q1, q2, q3, q4⟩
  have HZ := Lib.hid (And.intro q1 (And.intro q2 (And.intro q3 ((HG.out.of0 (cs := X.all ++ (A.all (cR C) ++ a.all))).trans q4))))
  clear q1 q2 q3 q4 HC
  go_wp2_with fail
  go_ret
  exact ⟨F1, V1, V2, c1', S1, rfl, HZ.out.1, HZ.out.2.1, HZ.out.2.2.1, HZ.out.2.2.2⟩
structure HL (C : CfgZ) (X : HtA) (A : FlA) (a : DevA) (lim : Nat) (Y : Nat → Nat → Nat → Nat) (N : Nat) (w : World) : Prop where
  l1 : 1 ≤ lim
  l2 : lim < 1000000
  st : ∃ (F : Nat → Nat → Nat) (V : FlV) (c : Nat → Nat) (S : HtS), HtIs w X A a C F V c N lim S ∧ ∀ g k m, g < pgC C → k < 8 → m < 8 → F (8 * S.fr g + k) m = Y g k m
variable {Y : Nat → Nat → Nat → Nat}
theorem HL.lt (h : HL C X A a lim Y N w) : ∀ x ∈ X.all ++ (A.all (cR C) ++ a.all), x < w.heap.size := by
  obtain ⟨l1, l2, F, V, c, S, h1, h2⟩ := h
  exact h1.lt
end
end Go.Proofs.YtefmbchebobceaaGreat

/-
  Layer 10: the table is taken in.
-/
namespace Go.Proofs.YtefmbchebobceaaGreat
open Go.RowKit
set_option linter.unusedVariables false

theorem infoPlace10 : (Tryz.prog.info? 114).map (fun i => (i.zero, i.size, i.bytes)) = some (some (.agg #[.int .i64 0, .int .u32 0]), 2, 16) := by kernel_rfl
def plL (fr mv : Nat → Nat) (n : Nat) : List Value := (List.range n).flatMap fun (q : Nat) => [Value.int .i64 ((fr q : Nat) : Int), Value.int .u32 ((mv q : Nat) : Int)]
theorem plL_snoc (fr mv : Nat → Nat) (n : Nat) : plL fr mv (n + 1) = plL fr mv n ++ [.int .i64 (fr n : Int), .int .u32 (mv n : Int)] := by
  unfold plL
  rw [List.range_succ, List.flatMap_append]
  simp
theorem plL_len (fr mv : Nat → Nat) (n : Nat) : (plL fr mv n).length = n * 2 := by
  induction n with
  | zero => rfl
  | succ n ih => rw [plL_snoc, List.length_append, ih]; simp; omega
theorem plL_get (fr mv : Nat → Nat) (n : Nat) {i : Nat} (h : i < n) : (plL fr mv n)[i * 2]? = some (.int .i64 (fr i : Int)) ∧ (plL fr mv n)[i * 2 + 1]? = some (.int .u32 (mv i : Int)) := by
  induction n with
  | zero => omega
  | succ n ih =>
    rw [plL_snoc]
    by_cases e : i = n
    · subst e
      rw [List.getElem?_append_right (by rw [plL_len]; omega), List.getElem?_append_right (by rw [plL_len]; omega), plL_len, show i * 2 - i * 2 = 0 by omega, show i * 2 + 1 - i * 2 = 1 by omega]
      exact ⟨rfl, rfl⟩
    · rw [List.getElem?_append_left (by rw [plL_len]; omega), List.getElem?_append_left (by rw [plL_len]; omega)]
      exact ih (by omega)
structure TbO (C : CfgZ) (F : Nat → Nat → Nat) (fr mv : Nat → Nat) : Prop where
  lt : ∀ g, g < pgC C → tbC C ≤ fr g ∧ fr g < frmC C
  inj : ∀ g g2, g < pgC C → g2 < pgC C → fr g = fr g2 → g = g2
  tab : ∀ g, g < pgC C → F (g / 8) (g % 8) = guardN (mv g * 65536 + fr g)
  mv : ∀ g, g < pgC C → mv g < 4294967296
def ldRow (A : FlA) (C : CfgZ) (lim hb tb : Nat) (v : Value) : Array Value := #[.pointer (some ⟨A.fb, 0, none⟩), .int .i64 (pgC C : Int), .int .i64 (tbC C : Int), .int .i64 (freeC C), .int .i64 (lim : Int), v, .slice (some ⟨hb, 0, none⟩) (pgC C) (pgC C), .slice (some ⟨tb, 0, none⟩) (frmC C) (frmC C)]
structure LdI (w0 : World) (A : FlA) (a : DevA) (C : CfgZ) (F : Nat → Nat → Nat) (V : FlV) (c : Nat → Nat) (N lim pb hb tb : Nat) (fr mv : Nat → Nat) (n : Nat) (v : Value) (wr : World) : Prop where
  fl : FLc C A a true F V c N wr
  head : Holds wr pb (ldRow A C lim hb tb v) 110
  own : wr.ownsRow w0.heap.size 114 2 v n (plL fr mv n)
  hts : Holds wr hb (rowOf (fun _ => .int .i64 0) (pgC C)) 3
  tks : ∃ (cur : Array Value) (tk : Nat → Bool), Holds wr tb cur 4 ∧ (∀ q, q < frmC C → cur[q]? = some (.bool (tk q))) ∧ ∀ q, q < frmC C → (tk q = true ↔ (q < tbC C ∨ ∃ g, g < n ∧ fr g = q))
  lo : pb < w0.heap.size ∧ hb < w0.heap.size ∧ tb < w0.heap.size ∧ ∀ x ∈ A.all (cR C) ++ a.all, x < w0.heap.size
  nd : pb ≠ hb ∧ pb ≠ tb ∧ hb ≠ tb
  na : pb ∉ A.all (cR C) ++ a.all ∧ hb ∉ A.all (cR C) ++ a.all ∧ tb ∉ A.all (cR C) ++ a.all
  gr : Gr [pb, tb] w0 wr
section
variable {w0 w1 w2 w6 w w' wr : World} {A : FlA} {a : DevA} {C : CfgZ} {F : Nat → Nat → Nat} {V : FlV} {c : Nat → Nat} {N lim pb hb tb n g cp q : Nat} {fr mv : Nat → Nat} {v : Value}
theorem LdI.gr0 (h : LdI w0 A a C F V c N lim pb hb tb fr mv n v wr) (k : Gr [] wr w') : LdI w0 A a C F V c N lim pb hb tb fr mv n v w' := by
  obtain ⟨cur, tk, q1, q2, q3⟩ := h.tks
  exact ⟨h.fl.gr0 k, h.head.gr0 k, own_gr0 h.own k, h.hts.gr0 k, ⟨cur, tk, q1.gr0 k, q2, q3⟩, h.lo, h.nd, h.na, h.gr.next0 k⟩
structure LdT (w0 : World) (A : FlA) (a : DevA) (C : CfgZ) (F : Nat → Nat → Nat) (V : FlV) (c : Nat → Nat) (N lim pb hb tb : Nat) (fr mv : Nat → Nat) (n : Nat) (v : Value) (wr : World) : Prop where
  fl : FLc C A a true F V c N wr
  head : Holds wr pb (ldRow A C lim hb tb v) 110
  own : wr.ownsRow w0.heap.size 114 2 v n (plL fr mv n)
  hts : Holds wr hb (rowOf (fun _ => .int .i64 0) (pgC C)) 3
  tks : ∃ (cur : Array Value) (tk : Nat → Bool), Holds wr tb cur 4 ∧ (∀ q, q < frmC C → cur[q]? = some (.bool (tk q))) ∧ ∀ q, q < frmC C → (tk q = true ↔ (q < tbC C ∨ ∃ g, g < n + 1 ∧ fr g = q))
  lo : pb < w0.heap.size ∧ hb < w0.heap.size ∧ tb < w0.heap.size ∧ ∀ x ∈ A.all (cR C) ++ a.all, x < w0.heap.size
  nd : pb ≠ hb ∧ pb ≠ tb ∧ hb ≠ tb
  na : pb ∉ A.all (cR C) ++ a.all ∧ hb ∉ A.all (cR C) ++ a.all ∧ tb ∉ A.all (cR C) ++ a.all
  gr : Gr [pb, tb] w0 wr
theorem LdI.take (h : LdI w0 A a C F V c N lim pb hb tb fr mv n v wr) : LdT w0 A a C F V c N lim pb hb tb fr mv n v (wr.setCell ⟨tb, fr n, none⟩ (.bool true)) := by
  obtain ⟨cur, tk, q1, q2, q3⟩ := h.tks
  have gr : Gr [tb] wr (wr.setCell ⟨tb, fr n, none⟩ (.bool true)) := (Gr.refl [tb] wr).setCell (p := ⟨tb, fr n, none⟩) (.inl (by simp)) _
  refine ⟨h.fl.gr gr (fun x hx e => ?_), h.head.far (a := ⟨tb, fr n, none⟩) h.nd.2.1 _, own_gr h.own gr (fun b hb e => ?_), h.hts.far (a := ⟨tb, fr n, none⟩) h.nd.2.2 _, ⟨_, fun q => if q = fr n then true else tk q, q1.set (fr n) _, fun q hq => ?_, fun q hq => ?_⟩, h.lo, h.nd, h.na, h.gr.trans (gr.mono (by simp))⟩
  · have : x = tb := by simpa using e
    exact h.na.2.2 (this ▸ hx)
  · have h1 := (h.own.lt b hb).1
    have h2 := h.lo.2.2.1
    have : b = tb := by simpa using e
    omega
  · have v0 := q2 q hq
    have b0 := (Array.getElem?_eq_some_iff.1 v0).1
    rw [Array.getElem?_setIfInBounds]
    show _ = some (Value.bool (if q = fr n then true else tk q))
    by_cases e : q = fr n
    · rw [if_pos e.symm, if_pos e, if_pos (by omega)]
    · rw [if_neg (fun e2 => e e2.symm), if_neg e]
      exact v0
  · show (if q = fr n then true else tk q) = true ↔ _
    by_cases e : q = fr n
    · rw [if_pos e]
      exact ⟨fun _ => .inr ⟨n, by omega, e.symm⟩, fun _ => rfl⟩
    · rw [if_neg e, q3 q hq]
      constructor
      · rintro (x | ⟨g, hg, x⟩)
        · exact .inl x
        · exact .inr ⟨g, by omega, x⟩
      · rintro (x | ⟨g, hg, x⟩)
        · exact .inl x
        · refine .inr ⟨g, ?_, x⟩
          have : g ≠ n := fun e2 => e (by rw [← x, e2])
          omega
theorem LdT.snoc (h : LdT w0 A a C F V c N lim pb hb tb fr mv n v w1) (g1 : Gr [] w1 w2) (hown : w6.ownsRow w0.heap.size 114 2 (.slice (some ⟨g, 0, none⟩) (n + 1) cp) (n + 1) (plL fr mv n ++ [.int .i64 (fr n : Int), .int .u32 (mv n : Int)]))
    (hg : w2.grownBy w6 v.ownBlock) : LdI w0 A a C F V c N lim pb hb tb fr mv (n + 1) (.slice (some ⟨g, 0, none⟩) (n + 1) cp) (w6.setCell ⟨pb, 5, none⟩ (.slice (some ⟨g, 0, none⟩) (n + 1) cp)) := by
  have hlr : ∀ b, v.ownBlock = some b → w0.heap.size ≤ b ∧ b < w1.heap.size := fun b e => h.own.lt b e
  obtain ⟨l1, l2, l3, l4⟩ := h.lo
  obtain ⟨cur, tk, q1, q2, q3⟩ := h.tks
  have hG : Gr (v.ownBlock.toList ++ [pb]) w1 (w6.setCell ⟨pb, 5, none⟩ (.slice (some ⟨g, 0, none⟩) (n + 1) cp)) := (((g1.of0 (cs := v.ownBlock.toList ++ [pb])).trans ((gr_grown9 hg).mono fun b hb => List.mem_append.2 (.inl hb)))).setCell (p := ⟨pb, 5, none⟩) (.inl (by simp)) _
  have key : ∀ x, x < w0.heap.size → x ≠ pb → x ∉ v.ownBlock.toList ++ [pb] := fun x hx hn e => by
    rcases List.mem_append.1 e with e | e
    · have := (hlr x (by simpa using e)).1; omega
    · exact hn (by simpa using e)
  refine ⟨h.fl.gr hG (fun x hx => key x (l4 x hx) (fun e => h.na.1 (e ▸ hx))), ?_, ?_, h.hts.gr hG (key hb l2 (fun e => h.nd.1 e.symm)), ⟨cur, tk, q1.gr hG (key tb l3 (fun e => h.nd.2.1 e.symm)), q2, q3⟩, h.lo, h.nd, h.na, ?_⟩
  · have hd : Holds w6 pb (ldRow A C lim hb tb v) 110 := (h.head.gr0 g1).gr (gr_grown9 hg) (fun e => by have := (hlr pb (by simpa using e)).1; omega)
    exact hd.set 5 (.slice (some ⟨g, 0, none⟩) (n + 1) cp)
  · rw [plL_snoc]
    exact own_gr hown ((Gr.refl [pb] w6).setCell (p := ⟨pb, 5, none⟩) (.inl (by simp)) _) (fun b hb e => by have := (hown.lt b hb).1; simp at e; omega)
  · refine h.gr.nextN hG fun x hx => ?_
    rcases List.mem_append.1 hx with e | e
    · exact .inr (hlr x (by simpa using e)).1
    · have : x = pb := by simpa using e
      exact .inl (by simp [this])
end
end Go.Proofs.YtefmbchebobceaaGreat

/-
  Layer 10: load.
-/
namespace Go.Proofs.YtefmbchebobceaaGreat
open Go.RowKit
set_option linter.unusedVariables false

section
variable {w0 w w' wr : World} {A : FlA} {a : DevA} {C : CfgZ} {F : Nat → Nat → Nat} {V : FlV} {c : Nat → Nat} {N lim pb hb tb : Nat} {fr mv : Nat → Nat}
theorem get_at (T : ByteArray) (hT : T.size = 64) (k : Nat) (hk : k < 8) (W : World) : Calls Tryz.prog 107 #[.string (T.extract (8 * k) T.size)] W fun e w' => e = .returned (.int .u64 ((wdL T.data.toList k : Nat) : Int)) ∧ W = w' := by
  have hl : T.data.toList.length = 64 := by rw [← hT]; rfl
  have he : (T.extract (8 * k) T.size).data.toList.take 8 = (T.data.toList.drop (8 * k)).take 8 := by
    rw [ByteArray.data_extract, Array.toList_extract, List.extract_eq_take_drop, hT, List.take_take, Nat.min_eq_left (by omega)]
  refine (get_any (T.extract (8 * k) T.size) W (by rw [ByteArray.size_extract]; unfold maxLen; omega)).mono ?_
  rintro e w' ⟨rfl, rfl⟩
  rw [he]
  exact ⟨rfl, rfl⟩
set_option maxRecDepth 100000 in
set_option maxHeartbeats 16000000 in
theorem hload_any (hp : 0 < pgC C) (ht : TbO C F fr mv) (h : LdI w A a C F V c N lim pb hb tb fr mv 0 (.slice none 0 0) w) :
    Calls Tryz.prog 57 #[.pointer (some ⟨pb, 0, none⟩)] w fun e w' => ∃ v, e = .returned (.int .i64 0) ∧ LdI w A a C F V c N lim pb hb tb fr mv (pgC C) v w' := by
  have hC := h.fl.ok
  obtain ⟨n1, n2, n3, n4, n5, n6⟩ := pg_nums hC hp
  obtain ⟨G, hG⟩ : ∃ G, G = pgC C := ⟨_, rfl⟩
  obtain ⟨H, hH⟩ : ∃ H, H = frmC C := ⟨_, rfl⟩
  have HN := Lib.hid (And.intro hG (And.intro hH (And.intro n1 (And.intro n2 (And.intro n5 n3)))))
  have HT := Lib.hid ht
  have H0 := Lib.hid h
  have hG7 : G ≤ 2048 := by omega
  have hH7 : H ≤ 2048 := by omega
  have c1 : w.cell? ⟨pb, 1, none⟩ = some (.int .i64 (G : Int)) := by rw [hG]; exact h.head.cell 1
  obtain ⟨ip, hip, hpz0, hpz1, hpz2⟩ := info_parts infoPlace10
  have HIP := Lib.hid (And.intro hip (And.intro hpz0 (And.intro hpz1 hpz2)))
  clear n1 n2 n3 n4 n5 n6 hG hH ht h hip hpz0 hpz1 hpz2
  go_enter Tryz.func57, Tryz.ntmps57
  go_wp2_with fail
  clear c1
  go_loopw [15] (fun iv wr => ∃ (n : Nat) (v : Value), iv = .int .i64 (n : Int) ∧ n ≤ G ∧ Hid (LdI w A a C F V c N lim pb hb tb fr mv n v wr)) (fun iv _ => G - (intOf iv).toNat)
  case atStart => exact ⟨0, _, rfl, by omega, H0⟩
  case round =>
    clear H0
    obtain ⟨n, v, rfl, hn, HS⟩ := hrel
    by_cases hnG : n < G
    · as_aux_lemma =>
        have inG : (n : Int) < (G : Int) := by omega
        have HI := Lib.hid hnG
        have hng : n < pgC C := by rw [← HN.out.1]; exact hnG
        have hl8 : n / 8 < cR C * cL C := by have := HN.out; omega
        have HRd := Lib.hid (HS.out.fl.fl.read (n / 8) hl8)
        obtain ⟨sz, wd⟩ := HS.out.fl.fl.size (n / 8) hl8
        obtain ⟨T, hT⟩ : ∃ T, T = lnF F (n / 8) := ⟨_, rfl⟩
        rw [← hT] at HRd sz wd
        have hk8 : n % 8 < 8 := Nat.mod_lt _ (by omega)
        have HGt := Lib.hid (fun W => get_at T sz (n % 8) hk8 W)
        rw [wd (n % 8) hk8, HT.out.tab n hng] at HGt
        obtain ⟨lt1, lt2⟩ := HT.out.lt n hng
        have mvn := HT.out.mv n hng
        have hH7' : fr n < 65536 := by have := HN.out; omega
        have key48 : mv n * 65536 + fr n < 281474976710656 := by omega
        have HGd := Lib.hid (fun W => guarded_yes (guardN (mv n * 65536 + fr n)) W (guardN_lt _ (by omega)) (guard_guard key48))
        rw [low_guard key48] at HGd
        have HFa := Lib.hid (fun W => field_any (mv n * 65536 + fr n) 0 16 W (by omega) (by omega) (by omega))
        have HFb := Lib.hid (fun W => field_any (mv n * 65536 + fr n) 16 32 W (by omega) (by omega) (by omega))
        rw [f_a, show (mv n * 65536 + fr n) % 65536 = fr n by omega] at HFa
        rw [f_p, show (mv n * 65536 + fr n) / 65536 % 4294967296 = mv n by omega] at HFb
        obtain ⟨cur, tk, t1, t2, t3⟩ := HS.out.tks
        have tkf : tk (fr n) = false := by
          cases e : tk (fr n) with
          | false => rfl
          | true =>
            rcases (t3 _ lt2).1 e with q | ⟨g, hg, q⟩
            · omega
            · exact absurd (HT.out.inj g n (by omega) hng q) (by omega)
        have HTK := Lib.hid (fun W (g : Gr [] wr W) => show W.cell? ⟨pb, 7, none⟩ = some (.slice (some ⟨tb, 0, none⟩) (frmC C) (frmC C)) ∧ W.cell? ⟨tb, fr n, none⟩ = some (.bool false) ∧ W.frozen? ⟨tb, fr n, none⟩ = false from ⟨(HS.out.gr0 g).head.cell 7, ((t1.gr0 g).cell (fr n)).trans ((t2 _ lt2).trans (by rw [tkf])), (t1.gr0 g).frozen (fr n)⟩)
        rw [← HN.out.2.1] at HTK
        have c0 : wr.cell? ⟨pb, 0, none⟩ = some (.pointer (some ⟨A.fb, 0, none⟩)) := HS.out.head.cell 0
        have htake := Lib.hid (fun W (g : Gr [] wr W) => (HS.out.gr0 g).take)
        generalize guardN (mv n * 65536 + fr n) = GK at *
        generalize mv n * 65536 + fr n = KK at *
        obtain ⟨f, hf⟩ : ∃ f, f = fr n := ⟨_, rfl⟩
        obtain ⟨m, hm⟩ : ∃ m, m = mv n := ⟨_, rfl⟩
        rw [← hf] at HFa HTK htake lt2
        rw [← hm] at HFb
        have HFM := Lib.hid (And.intro hf hm)
        have e1 : (n : Int).tdiv 8 = ((n / 8 : Nat) : Int) := (Int.ofNat_tdiv n 8).symm
        have e2 : (n : Int).tmod 8 = ((n % 8 : Nat) : Int) := (Int.ofNat_tmod n 8).symm
        obtain ⟨l, hl⟩ : ∃ l, l = n / 8 := ⟨_, rfl⟩
        obtain ⟨k, hk⟩ : ∃ k, k = n % 8 := ⟨_, rfl⟩
        obtain ⟨k64, hk64⟩ : ∃ x, x = k * 64 := ⟨_, rfl⟩
        obtain ⟨k8, hk8'⟩ : ∃ x, x = 8 * k := ⟨_, rfl⟩
        rw [← hl] at e1 HRd
        rw [← hk] at e2 HGt hk8
        rw [← hk8'] at HGt
        have q1 : IntKind.i64.wrap (l : Int) = (l : Int) := IntWalk.i64_in _ (by omega)
        have q2 : IntKind.i64.wrap (k : Int) = (k : Int) := IntWalk.i64_in _ (by omega)
        have q3 : IntKind.i64.wrap ((k : Int) * 64) = (k64 : Int) := by rw [show (k : Int) * 64 = (k64 : Int) by omega]; exact IntWalk.i64_in _ (by omega)
        have q4 : (k64 : Int).tdiv 8 = (k8 : Int) := by rw [Int.tdiv_eq_ediv_of_nonneg (by omega)]; omega
        have q5 : IntKind.i64.wrap (k8 : Int) = (k8 : Int) := IntWalk.i64_in _ (by omega)
        have q6 : IntKind.i64.wrap (f : Int) = (f : Int) := IntWalk.i64_in _ (by omega)
        have q7 : IntKind.u32.wrap (m : Int) = (m : Int) := by rw [IntKind.wrap_u32]; omega
        have sz0 : k8 ≤ T.size := by omega
        have sz1 : T.size ≤ 9223372036854775807 := by omega
        have f1 : (f : Int) < (H : Int) := by have := HN.out.2.1; omega
        have f0 : (0 : Int) ≤ (f : Int) := by omega
        have f2 : ¬ (H : Int) ≤ (f : Int) := by omega
        have f3 : decide (H ≤ f) = false := decide_eq_false (by omega)
        clear hT wd lt1 mvn key48 t1 t2 t3 tkf hf hm hl hk hk64 hk8' hk8 hl8 hng lt2 hH7' sz
        go_wp2_with fail
        refine HRd.out.mono ?_
        rintro e w2 ⟨rfl, g2⟩
        have HG2 := Lib.hid g2
        clear g2 c0
        go_wp2_with fail
        refine (HGt.out _).mono ?_
        rintro e w3 ⟨rfl, rfl⟩
        go_wp2_with fail
        refine (HGd.out _).mono ?_
        rintro e w4 ⟨rfl, b4⟩
        have HG4 := Lib.hid (HG2.out.trans (Gr.ofBelow (cs := []) b4))
        clear b4 HG2
        go_wp2_with fail
        refine (HFa.out _).mono ?_
        rintro e w5 ⟨rfl, rfl⟩
        obtain ⟨k7, kt, kz⟩ := HTK.out _ HG4.out
        go_wp2_with fail
        have H5 := Lib.hid (htake.out _ HG4.out)
        clear kt kz k7 HG4 HTK HGt HGd HFa HRd
        generalize w4.setCell ⟨tb, f, none⟩ (.bool true) = w6 at *
        obtain ⟨ao, cap, hv⟩ := own_form9 H5.out.own
        subst hv
        have s0 : w6.cell? ⟨pb, 5, none⟩ = some (.slice ao n cap) := H5.out.head.cell 5
        have s0d : w6.drew.cell? ⟨pb, 5, none⟩ = some (.slice ao n cap) := H5.out.head.cell 5
        have s0a : (w6.drew.alloc (Obj.cells #[.int .i64 (f : Int), .int .u32 (m : Int)] 114)).cell? ⟨pb, 5, none⟩ = some (.slice ao n cap) := (H5.out.head.gr0 (((Gr.refl [] w6).drew).alloc _)).cell 5
        have s0b : (w6.alloc (Obj.cells #[.int .i64 (f : Int), .int .u32 (m : Int)] 114)).cell? ⟨pb, 5, none⟩ = some (.slice ao n cap) := (H5.out.head.gr0 ((Gr.refl [] w6).alloc _)).cell 5
        go_region_law ((first
          | (go_simp; go_at_call 108; (with_reducible refine (HFb.out _).mono ?_); rintro rr w5 ⟨rfl, rfl⟩)
          | (have hT3 := H5.out.own.alloc (Obj.cells #[.int .i64 (f : Int), .int .u32 (m : Int)] 114); have hn3 := World.news_of_block (Holds.new w6 #[.int .i64 (f : Int), .int .u32 (m : Int)] 114); have hbs : w.heap.size ≤ (w6.alloc (Obj.cells #[.int .i64 (f : Int), .int .u32 (m : Int)] 114)).heap.size := (by have := H5.out.gr.size; rw [World.size_alloc]; omega); refine step_append_lies _ rfl _ _ 108 rfl w.heap.size 114 ip _ 2 16 Tryz.underlying108 HIP.out.1 HIP.out.2.1 HIP.out.2.2.1 HIP.out.2.2.2 rfl (by decide) (.slice ao n cap) n (plL fr mv n) rfl hT3 ⟨w6.heap.size, 0, none⟩ 1 1 [.int .i64 (f : Int), .int .u32 (m : Int)] rfl rfl hn3 (one_spot10 _ _) Nat.one_pos (by unfold maxLen; omega) (by omega) hbs _ rfl ?_; intro g6 cp6 w7 hown6 hgrow6 hat6 hlt6; have gA := ((Gr.refl [] w6).alloc (Obj.cells #[.int .i64 (f : Int), .int .u32 (m : Int)] 114)).drew; have hlr : ∀ b, (Value.slice ao n cap).ownBlock = some b → w.heap.size ≤ b := (fun b e => (H5.out.own.lt b e).1); have hd7 := (H5.out.head.gr0 gA).gr (gr_grown9 hgrow6) (fun e => by have h1 := hlr pb (by simpa using e); have h2 := H5.out.lo.1; omega); have s7 : w7.cell? ⟨pb, 5, none⟩ = some (.slice ao n cap) := hd7.cell 5; have f7 := hd7.frozen 5; have HR7 := Lib.hid (H5.out.snoc gA (by rw [← HFM.out.1, ← HFM.out.2]; exact hown6) hgrow6); clear hown6 hgrow6 hat6 hlt6 gA hlr hd7 hT3 hn3 hbs)))
        all_goals
          go_wp2_with fail
          go_roundw
          case rel => exact ⟨n + 1, _, by go_num, HI.out, HR7⟩
          case measure => simp [intOf]; omega
    · obtain rfl : n = G := by omega
      have ij : ¬ ((n : Int) < (n : Int)) := by omega
      clear hnG hn
      go_wp2_with fail
      go_ret
      have e := HN.out.1
      rw [← e]
      exact ⟨rfl, v, HS.out⟩
end
end Go.Proofs.YtefmbchebobceaaGreat
