/-
  SkBk: HuJ, HuK, HuL, MapP, HvA.
-/
import Derived.Test.YtifekejcbhllpaaGreatSkBj
import Derived.Test.YtifekejcbhllpaaGreatSkBf
import Derived.Test.YtifekejcbhllpaaGreatSkAa
import Derived.Test.YtifekejcbhllpaaGreatSkBi
import Derived.WideKeyArr

set_option linter.unusedVariables false

/-
  Layer 10: a hot page is examined, whatever comes.
-/
namespace Go.Proofs.YtifekejcbhllpaaGreat
open Go.RowKit
set_option linter.unusedVariables false

section
variable {w w' : World} {X : HtA} {A : FlA} {a : DevA} {C : CfgZ} {gd cm : Bool} {F F' : Nat → Nat → Nat} {V V' : FlV} {N N' lim : Nat} {S : HtS}
set_option maxRecDepth 100000 in
set_option maxHeartbeats 16000000 in
theorem gexam_any (h : HgIs w X A a C gd cm F V N lim S) (hN : N < 480000000) (g : Nat) (hg : g < pgC C) :
    Calls Tryz.prog 97 #[.pointer (some ⟨X.pb, 0, none⟩), .int .i64 (g : Int)] w fun e w' => ∃ (x : Int) (S1 : HtS), e = .returned (.int .i64 x) ∧ MvP C X A a gd cm lim F S S1 (N + 37800) x w' ∧ S1.ht = S.ht ∧ Gr (X.all ++ (A.all (cR C) ++ a.all)) w w' := by
  have hC := h.fl.ok
  obtain ⟨n1, n2, n3, n4, n5, n6⟩ := pg_nums hC h.pos
  have HCo := Lib.hid (gcool_any h)
  have H0 := Lib.hid h
  have HNM := Lib.hid (And.intro n2 hg)
  have hfl : S.fr g < frmC C := (h.inv.lt g hg).2
  have HSp := Lib.hid (fun W (g1 : Gr [] w W) => gspot_any (h.gr0 g1) (S.fr g) hfl)
  have HPl := Lib.hid (fun W (g1 : Gr [] w W) => And.intro (h.gr0 g1).hc.2.2.2.2.1 ((h.gr0 g1).plAt hg).1)
  obtain ⟨f, hf0⟩ : ∃ f, f = S.fr g := ⟨_, rfl⟩
  obtain ⟨Jf, hJf⟩ : ∃ J, J = V.J (qL C (8 * S.fr g)) := ⟨_, rfl⟩
  rw [← hJf, ← hf0] at HSp
  rw [← hf0] at HPl
  have HJF := Lib.hid hJf
  obtain ⟨G, hG⟩ : ∃ G, G = pgC C := ⟨_, rfl⟩
  rw [← hG] at HPl
  have g1 : (g : Int) < (G : Int) := by omega
  have g0 : (0 : Int) ≤ (g : Int) := by omega
  have fld := fld_s10
  have hcap := h.cap
  rw [← hG] at hcap
  clear n1 n3 n4 n5 n6 h hC hfl hf0 hJf
  go_enter Tryz.func97, Tryz.ntmps97
  go_wp2_with fail
  refine HCo.out.mono ?_
  rintro e w2 ⟨q, hq, hqf, hmin, rfl, g2⟩
  obtain ⟨Jq, hJq⟩ : ∃ J, J = V.J (qL C (8 * q)) := ⟨_, rfl⟩
  rw [← hJq]
  have HQ := Lib.hid (And.intro hq (And.intro hqf (And.intro hmin (And.intro hJq g2))))
  have ga := g2.alloc (Obj.cells #[.int .i64 (q : Int), .int .u32 (Jq : Int)] 192)
  have hb := Holds.new w2 #[.int .i64 (q : Int), .int .u32 (Jq : Int)] 192
  have H3 := Lib.hid (And.intro ga hb)
  clear hq hqf hmin hJq g2 ga hb HCo
  go_upto_region 2 with fail
  generalize w2.alloc (Obj.cells #[.int .i64 (q : Int), .int .u32 (Jq : Int)] 192) = w3 at *
  obtain ⟨sb, hsb⟩ : ∃ b, w2.heap.size = b := ⟨_, rfl⟩
  rw [hsb] at H3 ⊢
  clear hsb
  have k0 := kp_cell (H3.out.2.cell 0)
  have k1 := kp_cell (H3.out.2.cell 1)
  have k2 := kp_cell (HPl.out _ H3.out.1).1
  have k3 := kp_cell (HPl.out _ H3.out.1).2
  have hne := kp_ne w3
  refine wp_region_kp (by kernel_rfl) (by kernel_rfl) ?_
  repeat (go_big_quiet_step ((rename_i x; exact kp_call x ((HSp.out _ (H3.out.1.trans (Gr.ofBelow (cs := []) x.h))).mono fun _ _ q => ⟨q.1, q.2.below0⟩))))
  with_reducible refine wpQuiet_nil ?_
  rintro _ ⟨y, rfl⟩
  have H4 := Lib.hid (And.intro (H3.out.1.trans (Gr.ofBelow (cs := []) y.h)) (H3.out.2.gr0 (Gr.ofBelow (cs := []) y.h)))
  clear k0 k1 k2 k3 hne H3 HSp HPl
  generalize y.w = w4 at *
  clear y
  obtain ⟨hq, hqf, hmin, hJq, g2⟩ := HQ.out
  by_cases hJ : Jf ≤ Jq
  · have hJb : decide (Jf ≤ Jq) = true := decide_eq_true hJ
    have HJ := Lib.hid hJ
    clear hJ hq hqf hmin hJq g2
    go_wp2_with fail
    go_ret
    obtain ⟨hq, hqf, hmin, hJq, g2⟩ := HQ.out
    exact ⟨0, S, rfl, .inl ⟨rfl, F, V, (H0.out.gr0 H4.out.1).more (by omega), fun _ _ _ _ _ => rfl⟩, rfl, H4.out.1.of0⟩
  · have hJb : decide (Jf ≤ Jq) = false := decide_eq_false hJ
    have HJ := Lib.hid hJ
    clear hJ hq hqf hmin hJq g2
    have HMv := Lib.hid (fun W (g1 : Gr [] w W) => gmove_any (H0.out.gr0 g1) hN g q HNM.out.2 HQ.out.1 HQ.out.2.1)
    have z0 := H4.out.2.cell 0
    go_wp2_with fail
    refine (HMv.out _ H4.out.1).mono ?_
    rintro e w5 ⟨x, rfl, h5, g5⟩
    have H5 := Lib.hid (And.intro h5 ((H4.out.1.of0 (cs := X.all ++ (A.all (cR C) ++ a.all))).trans g5))
    clear h5 g5
    go_wp2_with fail
    go_ret
    exact ⟨x, movS S g q, rfl, H5.out.1, rfl, H5.out.2⟩
end
end Go.Proofs.YtifekejcbhllpaaGreat

/-
  Layer 10: a line of a page is written, whatever comes.
-/
namespace Go.Proofs.YtifekejcbhllpaaGreat
open Go.RowKit
set_option linter.unusedVariables false

/-- What comes of a line's write. -/
def WrP (C : CfgZ) (X : HtA) (A : FlA) (a : DevA) (gd cm : Bool) (lim : Nat) (F : Nat → Nat → Nat) (S : HtS) (F' : Nat → Nat → Nat) (P : (Nat → Nat → Nat) → Prop) (N : Nat) (x : Int) (w : World) : Prop :=
  (x = 0 ∧ ∃ V', HgIs w X A a C gd cm F' V' N lim S) ∨ (x = 10 ∧ gd = false ∧ ∃ V', HgIs w X A a C gd cm F V' N lim S) ∨ (x = 6 ∧ cm = false ∧ FLo C a gd P N w)
/-- What comes of a page's write: of contents Y. -/
def HwP (C : CfgZ) (X : HtA) (A : FlA) (a : DevA) (gd cm : Bool) (lim : Nat) (Y Y' : Nat → Nat → Nat → Nat) (P : (Nat → Nat) → Prop) (g k : Nat) (N : Nat) (x : Int) (w : World) : Prop :=
  (x = 0 ∧ ∃ F' V' S', HgIs w X A a C gd cm F' V' N lim S' ∧ ∀ g2 k2 m, g2 < pgC C → k2 < 8 → m < 8 → F' (8 * S'.fr g2 + k2) m = Y' g2 k2 m) ∨
  (x = 10 ∧ gd = false ∧ ∃ F' V' S', HgIs w X A a C gd cm F' V' N lim S' ∧ ∀ g2 k2 m, g2 < pgC C → k2 < 8 → m < 8 → F' (8 * S'.fr g2 + k2) m = Y g2 k2 m) ∨
  (x = 6 ∧ cm = false ∧ FLo C a gd (fun F' => ∃ Z : Nat → Nat → Nat → Nat, (∀ g2 k2 m, g2 < pgC C → k2 < 8 → m < 8 → ¬ (g2 = g ∧ k2 = k) → Z g2 k2 m = Y g2 k2 m) ∧ P (Z g k) ∧ PgY C Z N F') N w)
section
variable {w w' : World} {X : HtA} {A : FlA} {a : DevA} {C : CfgZ} {gd cm : Bool} {F F' : Nat → Nat → Nat} {V V' : FlV} {N N' lim : Nat} {S : HtS}
theorem HgIs.setHt (h : HgIs w X A a C gd cm F V N lim S) {g : Nat} (v : Nat) (hv : v ≤ lim) : HgIs (w.setCell ⟨X.hb, g, none⟩ (.int .i64 (v : Int))) X A a C gd cm F V N lim (htS S g v) := by
  obtain ⟨c1, q1, q2⟩ := h.pls
  obtain ⟨c2, q3, q4⟩ := h.hts
  obtain ⟨c3, q5, q6⟩ := h.tks
  have nd := h.nd
  have gr : Gr [X.hb] w (w.setCell ⟨X.hb, g, none⟩ (.int .i64 (v : Int))) := (Gr.refl [X.hb] w).setCell (p := ⟨X.hb, g, none⟩) (.inl (by simp)) _
  refine ⟨h.fl.gr gr (fun x hx e => ?_), h.pos, h.head.far (a := ⟨X.hb, g, none⟩) nd.2.1 _, ⟨c1, q1.far (a := ⟨X.hb, g, none⟩) nd.2.2.2.1 _, q2⟩, ⟨_, q3.set g _, fun g2 h2 => ?_⟩, ⟨c3, q5.far (a := ⟨X.hb, g, none⟩) (fun e => nd.2.2.2.2.2 e.symm) _, q6⟩, h.na, nd, h.cap, ⟨h.inv.lt, h.inv.inj, h.inv.tk⟩, h.tab, h.mvb, fun g2 h2 => ?_⟩
  · have : x = X.hb := by simpa using e
    subst this
    exact h.na _ (by simp [HtA.all]) hx
  · have v0 := q4 g2 h2
    have b0 := (Array.getElem?_eq_some_iff.1 v0).1
    show (c2.setIfInBounds g (.int .i64 (v : Int)))[g2]? = some (.int .i64 ((updN S.ht g v g2 : Nat) : Int))
    rw [Array.getElem?_setIfInBounds]
    by_cases e : g2 = g
    · subst e
      rw [if_pos rfl, if_pos b0, updN_same]
    · rw [if_neg (fun e2 => e e2.symm), updN_other _ _ e]
      exact v0
  · show updN S.ht g v g2 ≤ lim
    by_cases e : g2 = g
    · subst e
      rw [updN_same]
      exact hv
    · rw [updN_other _ _ e]
      exact h.htb g2 h2
theorem WrP.of {P : (Nat → Nat → Nat) → Prop} {x : Int} {w0 : World} (h : HgIs w0 X A a C gd cm F V N lim S) (k : Gr (A.all (cR C) ++ a.all) w0 w') (f : FxP C A a gd cm F F' P N' x w') (ht : ∀ g, g < pgC C → F' (g / 8) (g % 8) = F (g / 8) (g % 8)) (hN : N ≤ N') : WrP C X A a gd cm lim F S F' P N' x w' := by
  rcases f with ⟨e, V', f⟩ | ⟨e, hg, V', f⟩ | ⟨e, hc, f⟩
  · exact .inl ⟨e, V', h.setF k f ht hN⟩
  · exact .inr (.inl ⟨e, hg, V', h.setF k f (fun _ _ => rfl) hN⟩)
  · exact .inr (.inr ⟨e, hc, f⟩)
set_option maxRecDepth 100000 in
set_option maxHeartbeats 8000000 in
/-- The closure of Write. -/
theorem gwr1_any {rc sc : Nat} (h : HgIs w X A a C gd cm F V N lim S) (hN : N < 490000000) (g k : Nat) (hg : g < pgC C) (hk : k < 8) (s : ByteArray) (hs : s.size = 64) (r1 : w.cell? ⟨rc, 0, none⟩ = some (.pointer (some ⟨X.pb, 0, none⟩))) (s1 : w.cell? ⟨sc, 0, none⟩ = some (.string s)) :
    Calls Tryz.prog 64 #[.int .i64 ((8 * S.fr g + k : Nat) : Int), .pointer (some ⟨rc, 0, none⟩), .pointer (some ⟨sc, 0, none⟩)] w fun e w' => ∃ x : Int, e = .returned (.int .i64 x) ∧ WrP C X A a gd cm lim F S (fun l2 m => if l2 = 8 * S.fr g + k then wdL s.data.toList m else F l2 m) (fun F' => ∃ H, (F' = fun l2 m => if l2 = 8 * S.fr g + k then H m else F l2 m) ∧ Mix2 (F (8 * S.fr g + k)) (wdL s.data.toList) H) (N + 4200) x w' ∧ Gr (A.all (cR C) ++ a.all) w w' := by
  have hC := h.fl.ok
  obtain ⟨n1, n2, n3, n4, n5, n6⟩ := pg_nums hC h.pos
  have hf := h.inv.lt g hg
  have HW := Lib.hid (fun W (g1 : Gr [] w W) => (h.gr0 g1).fl.put hN (8 * S.fr g + k) (by omega) s hs)
  have H := Lib.hid (And.intro h (show ∀ g2, g2 < pgC C → ¬ g2 / 8 = 8 * S.fr g + k from fun g2 h2 => by omega))
  obtain ⟨l, hl⟩ : ∃ l, l = 8 * S.fr g + k := ⟨_, rfl⟩
  rw [← hl] at HW H ⊢
  have k4 := kp_cell (a := ⟨X.pb, 0, none⟩) h.hc.1
  have kr := kp_cell r1
  have ks := kp_cell s1
  have hne := kp_ne w
  clear h hC n1 n2 n3 n4 n5 n6 hf hl r1 s1
  go_enter Tryz.func64, Tryz.ntmps64
  go_wp2_with fail
  refine wp_region_kp_tail 6 (by kernel_rfl) (by kernel_rfl) ?_
  simp only [List.take_succ_cons, List.take_zero, List.drop_succ_cons, List.drop_zero]
  repeat (go_big_quiet_step (fail))
  with_reducible refine wpQuiet_nil ?_
  rintro _ ⟨y, rfl⟩
  have HG := Lib.hid (Gr.ofBelow (cs := []) y.h)
  clear k4 kr ks hne
  generalize y.w = w2 at *
  go_wp2_with fail
  refine (HW.out _ HG.out).mono ?_
  rintro e w3 ⟨x, rfl, f3, g3⟩
  have H3 := Lib.hid (And.intro (WrP.of (H.out.1.gr0 HG.out) g3 f3 (fun g2 h2 => by rw [if_neg (H.out.2 g2 h2)]) (by omega)) ((HG.out.of0 (cs := A.all (cR C) ++ a.all)).trans g3))
  clear f3 g3
  go_wp2_with fail
  go_ret
  exact ⟨x, rfl, H3.out.1, H3.out.2⟩
set_option maxRecDepth 100000 in
set_option maxHeartbeats 16000000 in
theorem gchange_any {rc sc : Nat} (h : HgIs w X A a C gd cm F V N lim S) (hl : 1 ≤ lim) (hl2 : lim < 1000000) (hN : N < 400000000) (g k : Nat) (hg : g < pgC C) (hk : k < 8) (s : ByteArray) (hs : s.size = 64) (r1 : w.cell? ⟨rc, 0, none⟩ = some (.pointer (some ⟨X.pb, 0, none⟩))) (s1 : w.cell? ⟨sc, 0, none⟩ = some (.string s)) (hrc : rc ∉ X.all ++ (A.all (cR C) ++ a.all)) (hsc : sc ∉ X.all ++ (A.all (cR C) ++ a.all)) :
    Calls Tryz.prog 63 #[.pointer (some ⟨X.pb, 0, none⟩), .int .i64 (g : Int), .int .i64 (k : Int), (.func (.func 64) #[] #[.pointer (some ⟨rc, 0, none⟩), .pointer (some ⟨sc, 0, none⟩)])] w fun e w' => ∃ x : Int, e = .returned (.int .i64 x) ∧ HwP C X A a gd cm lim (ySee F S) (fun g2 k2 m => if g2 = g ∧ k2 = k then wdL s.data.toList m else ySee F S g2 k2 m) (fun G => Mix2 (ySee F S g k) (wdL s.data.toList) G) g k (N + 42000) x w' ∧ Gr (X.all ++ (A.all (cR C) ++ a.all)) w w' := by
  have HF0 := Lib.hid (gfind_in h g k hg hk)
  have H0 := Lib.hid h
  have HCl := Lib.hid (show w.cell? ⟨rc, 0, none⟩ = some (.pointer (some ⟨X.pb, 0, none⟩)) ∧ w.cell? ⟨sc, 0, none⟩ = some (.string s) from ⟨r1, s1⟩)
  have HKp := Lib.hid (show ∀ (W W' : World), (W.cell? ⟨rc, 0, none⟩ = some (.pointer (some ⟨X.pb, 0, none⟩)) ∧ W.cell? ⟨sc, 0, none⟩ = some (.string s)) → ∀ bs, Gr bs W W' → (∀ x ∈ bs, x ∈ X.all ++ (A.all (cR C) ++ a.all)) → (W'.cell? ⟨rc, 0, none⟩ = some (.pointer (some ⟨X.pb, 0, none⟩)) ∧ W'.cell? ⟨sc, 0, none⟩ = some (.string s)) from fun W W' q bs g hbs => by
    have hrc := fun e => hrc (hbs _ e)
    have hsc := fun e => hsc (hbs _ e)
    exact ⟨(cell_gr7 g (World.block_lt_of_cell? _ _ q.1) hrc).trans q.1, (cell_gr7 g (World.block_lt_of_cell? _ _ q.2) hsc).trans q.2⟩)
  have HP := Lib.hid (And.intro hg (And.intro hk (And.intro hs (And.intro hl (And.intro hl2 hN)))))
  have hht := h.htb g hg
  have hG7 : pgC C ≤ 2048 := by have := pg_nums h.fl.ok h.pos; omega
  obtain ⟨G, hG⟩ : ∃ G, G = pgC C := ⟨_, rfl⟩
  have HGG := Lib.hid hG
  obtain ⟨T, hT⟩ : ∃ T, T = S.ht g := ⟨_, rfl⟩
  have c6 := h.hc.2.2.2.2.2.1
  have c4 := h.hc.2.2.2.1
  obtain ⟨t0, t1⟩ := h.htAt hg
  rw [← hT] at t0 hht
  have HT := Lib.hid hT
  rw [← hG] at c6
  have g1 : (g : Int) < (G : Int) := by omega
  have g0 : (0 : Int) ≤ (g : Int) := by omega
  have k6 := kp_cell c6
  have k4 := kp_cell c4
  have kt := kp_cell t0
  have hne := kp_ne w
  clear h r1 s1 hrc hsc hs hN hT t1 c6 c4 t0
  go_enter Tryz.func63, Tryz.ntmps63
  go_wp2_with fail
  refine HF0.out.mono ?_
  rintro e w2 ⟨rfl, rfl⟩
  go_upto_region 4 with fail
  refine wp_region_kp (by kernel_rfl) (by kernel_rfl) ?_
  repeat (go_big_quiet_step (fail))
  with_reducible refine wpQuiet_nil ?_
  rintro _ ⟨y, rfl⟩
  have gy := Lib.hid (Gr.ofBelow (cs := []) y.h)
  clear k6 k4 kt hne HF0
  generalize y.w = w3 at *
  clear y
  go_upto_if 36 with fail
  go_cut [11] (fun _ wz => ∃ (F1 : Nat → Nat → Nat) (V1 : FlV) (S1 : HtS), (S1.ht g < lim ∧ ∀ g2 k m, g2 < pgC C → k < 8 → F1 (8 * S1.fr g2 + k) m = F (8 * S.fr g2 + k) m) ∧ HgIs wz X A a C gd cm F1 V1 (N + 37800) lim S1 ∧ (wz.cell? ⟨rc, 0, none⟩ = some (.pointer (some ⟨X.pb, 0, none⟩)) ∧ wz.cell? ⟨sc, 0, none⟩ = some (.string s)) ∧ Gr (X.all ++ (A.all (cR C) ++ a.all)) w2 wz)
  case first =>
    by_cases hcm : lim ≤ T
    · as_aux_lemma =>
        have hcb : decide (lim ≤ T) = true := decide_eq_true hcm
        have HC := Lib.hid hcm
        have HEx := Lib.hid (gexam_any (H0.out.gr0 gy.out) (by have := HP.out.2.2.2.2.2; omega) g hg)
        clear hcm
        go_wp2_with fail
        refine HEx.out.mono ?_
        rintro e w5 ⟨x, S0, rfl, h5, t5, g5⟩
        have HG5 := Lib.hid ((gy.out.of0 (cs := X.all ++ (A.all (cR C) ++ a.all))).trans g5)
        have hcl5 := Lib.hid (HKp.out _ _ (HKp.out _ _ HCl.out _ gy.out (by simp)) _ g5 (fun x hx => hx))
        rcases h5 with ⟨rfl, F1, V1, h5, x5⟩ | ⟨rfl, hgd, F1, V1, h5, x5⟩ | ⟨rfl, hcx, h5⟩
        · have H5 := Lib.hid (And.intro h5 x5)
          have c6 : w5.cell? ⟨X.pb, 6, none⟩ = some (.slice (some ⟨X.hb, 0, none⟩) (pgC C) (pgC C)) := h5.hc.2.2.2.2.2.1
          rw [← HGG.out] at c6
          obtain ⟨t0, t1⟩ := h5.htAt hg
          generalize S0.ht g = T0 at *
          have HZ := Lib.hid (h5.setHt (g := g) 0 (Nat.zero_le _))
          have HZG := Lib.hid (show Gr [X.hb] w5 (w5.setCell ⟨X.hb, g, none⟩ (.int .i64 ((0 : Nat) : Int))) from (Gr.refl [X.hb] w5).setCell (p := ⟨X.hb, g, none⟩) (.inl (by simp)) _)
          clear h5 x5 g5 t5 HEx hcb
          go_wp2_with fail
          clear c6 t0 t1
          go_meet
          refine ⟨F1, V1, htS S0 g 0, ⟨?_, H5.out.2⟩, HZ.out, HKp.out _ _ hcl5.out _ HZG.out (fun x hx => by have : x = X.hb := (by simpa using hx); subst this; simp [HtA.all]), HG5.out.nextN HZG.out (fun x hx => by have : x = X.hb := (by simpa using hx); subst this; simp [HtA.all])⟩
          show updN S0.ht g 0 g < lim
          rw [updN_same]
          have := HP.out.2.2.2.1
          omega
        · have H5 := Lib.hid (And.intro hgd (And.intro h5 x5))
          clear h5 x5 g5 t5 HEx hcb hgd
          go_wp2_with fail
          go_ret
          exact ⟨10, rfl, .inr (.inl ⟨rfl, H5.out.1, F1, V1, S, H5.out.2.1.more (by omega), fun g2 k2 m h2 hk2 _ => H5.out.2.2 g2 k2 m h2 hk2⟩), HG5.out⟩
        · have H5 := Lib.hid (And.intro hcx h5)
          clear h5 g5 t5 HEx hcb hcx
          go_wp2_with fail
          go_ret
          refine ⟨6, rfl, .inr (.inr ⟨rfl, H5.out.1, (H5.out.2.imp fun F3 hF3 => ?_).more (by omega)⟩), HG5.out⟩
          exact ⟨ySee F S, fun _ _ _ _ _ _ _ => rfl, fun _ _ => .inl rfl, hF3.congr H0.out.fl.ok H0.out.pos (fun _ _ _ _ => rfl) (by omega) (fun _ _ _ _ _ _ => rfl)⟩
    · have hcb : decide (lim ≤ T) = false := decide_eq_false hcm
      have HC := Lib.hid hcm
      clear hcm
      go_wp2_with fail
      go_meet
      exact ⟨F, V, S, ⟨by rw [← HT.out]; have := HC.out; omega, fun _ _ _ _ _ => rfl⟩, (H0.out.gr0 gy.out).more (by omega), HKp.out _ _ HCl.out _ gy.out (by simp), gy.out.of0⟩
  case rest =>
    obtain ⟨F1, V1, S1, k1, k2, k3, k4⟩ := hcut
    obtain ⟨wy, hwy⟩ : ∃ wy, wy = wc := ⟨_, rfl⟩
    rw [← hwy] at k2 k3 k4 ⊢
    have HA := Lib.hid k1
    have H5 := Lib.hid (And.intro k2 (And.intro k3 k4))
    have HF1 := Lib.hid (gfind_in k2 g k hg hk)
    have HW1 := Lib.hid (gwr1_any k2 (by have := HP.out.2.2.2.2.2; omega) g k hg hk s HP.out.2.2.1 k3.1 k3.2)
    have HNN := Lib.hid (pg_nums k2.fl.ok k2.pos)
    clear hwy k1 k2 k3 k4 gy HT HCl
    obtain ⟨l, hl0⟩ : ∃ l, l = 8 * S1.fr g + k := ⟨_, rfl⟩
    rw [← hl0] at HF1 HW1
    have HL := Lib.hid hl0
    clear hl0
    go_wp2_with fail
    refine HF1.out.mono ?_
    rintro e w6 ⟨rfl, rfl⟩
    go_wp2_with fail
    refine HW1.out.mono ?_
    rintro e w7 ⟨x, rfl, h7, g7⟩
    have HG7 := Lib.hid (H5.out.2.2.trans (g7.mono (fun x hx => List.mem_append.2 (.inr hx))))
    rcases h7 with ⟨rfl, V2, h7⟩ | ⟨rfl, hgd, V2, h7⟩ | ⟨rfl, hcx, h7⟩
    · obtain ⟨t0, t1⟩ := h7.htAt hg
      have c6 : w7.cell? ⟨X.pb, 6, none⟩ = some (.slice (some ⟨X.hb, 0, none⟩) (pgC C) (pgC C)) := h7.hc.2.2.2.2.2.1
      rw [← HGG.out] at c6
      have hlt := HA.out.1
      obtain ⟨T1, hT1⟩ : ∃ T1, T1 = S1.ht g := ⟨_, rfl⟩
      obtain ⟨T2, hT2⟩ : ∃ T2, T2 = S1.ht g + 1 := ⟨_, rfl⟩
      rw [← hT1] at t0
      have wt : IntKind.i64.wrap ((T1 : Int) + 1) = (T2 : Int) := by rw [show (T1 : Int) + 1 = (T2 : Int) by omega]; exact IntWalk.i64_in _ (by omega)
      have HZ := Lib.hid (h7.setHt (g := g) T2 (by omega))
      have HZG := Lib.hid (show Gr [X.hb] w7 (w7.setCell ⟨X.hb, g, none⟩ (.int .i64 (T2 : Int))) from (Gr.refl [X.hb] w7).setCell (p := ⟨X.hb, g, none⟩) (.inl (by simp)) _)
      have HI := Lib.hid h7.inv
      clear h7 g7 hT1 hT2 hlt HW1 HF1 H5
      go_wp2_with fail
      clear c6 t0 t1 wt
      go_ret
      refine ⟨0, rfl, .inl ⟨rfl, _, V2, _, HZ.out.more (by omega), fun g2 k2 m h2 hk2 hm => ?_⟩, HG7.out.nextN HZG.out (fun x hx => by have : x = X.hb := (by simpa using hx); subst this; simp [HtA.all])⟩
      show (if 8 * S1.fr g2 + k2 = l then wdL s.data.toList m else F1 (8 * S1.fr g2 + k2) m) = if g2 = g ∧ k2 = k then _ else F (8 * S.fr g2 + k2) m
      rw [HL.out]
      by_cases e : g2 = g ∧ k2 = k
      · rw [if_pos e, if_pos (by rw [e.1, e.2])]
      · rw [if_neg e, if_neg (fun e2 => e ?_), HA.out.2 g2 k2 m h2 hk2]
        have : S1.fr g2 = S1.fr g := by omega
        exact ⟨HI.out.inj g2 g h2 hg this, by omega⟩
    · have H7 := Lib.hid (And.intro hgd h7)
      clear h7 g7 hgd HW1 HF1 H5
      go_wp2_with fail
      go_ret
      exact ⟨10, rfl, .inr (.inl ⟨rfl, H7.out.1, F1, V2, S1, H7.out.2.more (by omega), fun g2 k2 m h2 hk2 _ => HA.out.2 g2 k2 m h2 hk2⟩), HG7.out⟩
    · have H7 := Lib.hid (And.intro hcx (And.intro h7 (And.intro H5.out.1.inv (H5.out.1.tbo (by have := HP.out.2.2.2.2.2; omega)))))
      have HMV := Lib.hid H5.out.1.mvb
      clear h7 g7 hcx HW1 HF1 H5
      go_wp2_with fail
      go_ret
      refine ⟨6, rfl, .inr (.inr ⟨rfl, H7.out.1, (H7.out.2.1.imp fun F3 hF3 => ?_).more (by omega)⟩), HG7.out⟩
      obtain ⟨H, rfl, hH⟩ := hF3
      have hlt := H7.out.2.2.1.lt g hg
      refine ⟨fun g2 k2 m => if g2 = g ∧ k2 = k then H m else F (8 * S.fr g2 + k2) m, fun g2 k2 m h2 hk2 hm hne => if_neg hne, fun m hm => ?_, S1.fr, S1.mv, H7.out.2.2.2.line H0.out.fl.ok H0.out.pos (by rw [HL.out]; omega) H, fun g2 h2 => by have := HMV.out g2 h2; omega, fun g2 k2 m h2 hk2 hm => ?_⟩
      · show (if g = g ∧ k = k then H m else _) = _ ∨ (if g = g ∧ k = k then H m else _) = _
        rw [if_pos ⟨rfl, rfl⟩]
        have := hH m hm
        rw [HL.out, HA.out.2 g k m hg hk] at this
        exact this
      · show (if 8 * S1.fr g2 + k2 = l then H m else F1 (8 * S1.fr g2 + k2) m) = if g2 = g ∧ k2 = k then _ else F (8 * S.fr g2 + k2) m
        rw [HL.out]
        by_cases e : g2 = g ∧ k2 = k
        · rw [if_pos e, if_pos (by rw [e.1, e.2])]
        · rw [if_neg e, if_neg (fun e2 => e ?_), HA.out.2 g2 k2 m h2 hk2]
          have : S1.fr g2 = S1.fr g := by omega
          exact ⟨H7.out.2.2.1.inj g2 g h2 hg this, by omega⟩
end
end Go.Proofs.YtifekejcbhllpaaGreat

/-
  Layer 10: Write, whatever comes; pages told by what they read.
-/
namespace Go.Proofs.YtifekejcbhllpaaGreat
open Go.RowKit
set_option linter.unusedVariables false

section
variable {w w' : World} {X : HtA} {A : FlA} {a : DevA} {C : CfgZ} {gd cm : Bool} {F F' : Nat → Nat → Nat} {V V' : FlV} {N N' lim : Nat} {S : HtS}
theorem gwrite_in (h : HgIs w X A a C gd cm F V N lim S) (hl : 1 ≤ lim) (hl2 : lim < 1000000) (hN : N < 400000000) (g k : Nat) (hg : g < pgC C) (hk : k < 8) (s : ByteArray) (hs : s.size = 64) :
    Calls Tryz.prog 39 #[.pointer (some ⟨X.pb, 0, none⟩), .int .i64 (g : Int), .int .i64 (k : Int), .string s] w fun e w' => ∃ x : Int, e = .returned (.int .i64 x) ∧ HwP C X A a gd cm lim (ySee F S) (fun g2 k2 m => if g2 = g ∧ k2 = k then wdL s.data.toList m else ySee F S g2 k2 m) (fun G => Mix2 (ySee F S g k) (wdL s.data.toList) G) g k (N + 42000) x w' ∧ Gr (X.all ++ (A.all (cR C) ++ a.all)) w w' := by
  have hs1 : ((s.size : Int) != 64) = false := by rw [hs]; rfl
  have hs2 : (s.size != 64) = false := by rw [hs]; rfl
  have ga := (Gr.refl [] w).alloc (Obj.cells #[.pointer (some ⟨X.pb, 0, none⟩)] 26)
  have gb := ga.alloc (Obj.cells #[.string s] 9)
  have h1 := (Holds.new w #[.pointer (some ⟨X.pb, 0, none⟩)] 26).alloc (Obj.cells #[.string s] 9)
  have h2 := Holds.new (w.alloc (Obj.cells #[.pointer (some ⟨X.pb, 0, none⟩)] 26)) #[.string s] 9
  have hsz : (w.alloc (Obj.cells #[.pointer (some ⟨X.pb, 0, none⟩)] 26)).heap.size = w.heap.size + 1 := World.size_alloc _ _
  rw [hsz] at h2
  have HC := Lib.hid (gchange_any (rc := w.heap.size) (sc := w.heap.size + 1) (h.gr0 gb) hl hl2 hN g k hg hk s hs (h1.cell 0) (h2.cell 0) (fun e => by have := h.lt _ e; omega) (fun e => by have := h.lt _ e; omega))
  have c0 := h1.cell 0
  have c1 := h2.cell 0
  have HG := Lib.hid gb
  clear h hl hl2 hN hg hk hs ga gb h1 h2 hsz
  go_enter Tryz.func39, Tryz.ntmps39
  go_upto_region 1 with fail
  generalize ((w.alloc (Obj.cells #[.pointer (some ⟨X.pb, 0, none⟩)] 26)).alloc (Obj.cells #[.string s] 9)) = w1 at *
  go_wp2_with fail
  refine HC.out.mono ?_
  rintro e w2 ⟨x, rfl, q1, q4⟩
  have HZ := Lib.hid (And.intro q1 ((HG.out.of0 (cs := X.all ++ (A.all (cR C) ++ a.all))).trans q4))
  clear q1 q4 HC
  go_wp2_with fail
  go_ret
  exact ⟨x, rfl, HZ.out.1, HZ.out.2⟩
/-- Pages at work, told by their lines' words, whatever comes. -/
structure HLg (C : CfgZ) (X : HtA) (A : FlA) (a : DevA) (gd cm : Bool) (lim : Nat) (Y : Nat → Nat → Nat → Nat) (N : Nat) (w : World) : Prop where
  l1 : 1 ≤ lim
  l2 : lim < 1000000
  st : ∃ (F : Nat → Nat → Nat) (V : FlV) (S : HtS), HgIs w X A a C gd cm F V N lim S ∧ ∀ g k m, g < pgC C → k < 8 → m < 8 → F (8 * S.fr g + k) m = Y g k m
variable {Y : Nat → Nat → Nat → Nat}
theorem HLg.gr {bs : List Nat} (h : HLg C X A a gd cm lim Y N w) (k : Gr bs w w') (hn : ∀ x ∈ X.all ++ (A.all (cR C) ++ a.all), x ∉ bs) : HLg C X A a gd cm lim Y N w' := by
  obtain ⟨l1, l2, F, V, S, h1, h2⟩ := h
  exact ⟨l1, l2, F, V, S, h1.gr k (fun x hx => hn x (List.mem_append.2 (.inl hx))) (fun x hx => hn x (List.mem_append.2 (.inr hx))), h2⟩
theorem HLg.gr0 (h : HLg C X A a gd cm lim Y N w) (k : Gr [] w w') : HLg C X A a gd cm lim Y N w' := h.gr k (by simp)
theorem HLg.lt (h : HLg C X A a gd cm lim Y N w) : ∀ x ∈ X.all ++ (A.all (cR C) ++ a.all), x < w.heap.size := by
  obtain ⟨l1, l2, F, V, S, h1, h2⟩ := h
  exact h1.lt
theorem HLg.more (h : HLg C X A a gd cm lim Y N w) (hN : N ≤ N') : HLg C X A a gd cm lim Y N' w := by
  obtain ⟨l1, l2, F, V, S, h1, h2⟩ := h
  exact ⟨l1, l2, F, V, S, h1.more hN, h2⟩
theorem HLg.len (h : HLg C X A a gd cm lim Y N w) : Calls Tryz.prog 35 #[.pointer (some ⟨X.pb, 0, none⟩)] w fun e w' => e = .returned (.int .i64 (pgC C : Int)) ∧ w' = w := by
  obtain ⟨l1, l2, F, V, S, h1, h2⟩ := h
  exact glen_any h1
/-- What a page's line reads. -/
theorem HLg.read (h : HLg C X A a gd cm lim Y N w) (g k : Nat) (hg : g < pgC C) (hk : k < 8) : ∃ T : ByteArray, T.size = 64 ∧ (∀ m, m < 8 → wdL T.data.toList m = Y g k m) ∧ Calls Tryz.prog 62 #[.pointer (some ⟨X.pb, 0, none⟩), .int .i64 (g : Int), .int .i64 (k : Int)] w fun e w' => e = .returned (.tuple #[.string T, .int .i64 0]) ∧ Gr [] w w' := by
  obtain ⟨l1, l2, F, V, S, h1, h2⟩ := h
  have n := pg_nums h1.fl.ok h1.pos
  have hf := (h1.inv.lt g hg).2
  obtain ⟨e1, e2⟩ := h1.fl.size (8 * S.fr g + k) (by omega)
  exact ⟨_, e1, fun m hm => (e2 m hm).trans (h2 g k m hg hk hm), gread_in h1 g k hg hk⟩
/-- A device that lost its power while a line of a page was written: what a Boot leaves. -/
def HLo (C : CfgZ) (a : DevA) (gd : Bool) (Y : Nat → Nat → Nat → Nat) (P : (Nat → Nat) → Prop) (g k N : Nat) (w : World) : Prop :=
  FLo C a gd (fun F' => ∃ Z : Nat → Nat → Nat → Nat, (∀ g2 k2 m, g2 < pgC C → k2 < 8 → m < 8 → ¬ (g2 = g ∧ k2 = k) → Z g2 k2 m = Y g2 k2 m) ∧ P (Z g k) ∧ PgY C Z N F') N w
def putN (Y : Nat → Nat → Nat → Nat) (g k : Nat) (s : ByteArray) : Nat → Nat → Nat → Nat := fun g2 k2 m => if g2 = g ∧ k2 = k then wdL s.data.toList m else Y g2 k2 m
theorem HLg.put (h : HLg C X A a gd cm lim Y N w) (hN : N < 400000000) (g k : Nat) (hg : g < pgC C) (hk : k < 8) (s : ByteArray) (hs : s.size = 64) :
    Calls Tryz.prog 39 #[.pointer (some ⟨X.pb, 0, none⟩), .int .i64 (g : Int), .int .i64 (k : Int), .string s] w fun e w' => ∃ x : Int, e = .returned (.int .i64 x) ∧ ((x = 0 ∧ HLg C X A a gd cm lim (putN Y g k s) (N + 42000) w') ∨ (x = 10 ∧ gd = false ∧ HLg C X A a gd cm lim Y (N + 42000) w') ∨ (x = 6 ∧ cm = false ∧ HLo C a gd Y (fun G => Mix2 (Y g k) (wdL s.data.toList) G) g k (N + 42000) w')) ∧ Gr (X.all ++ (A.all (cR C) ++ a.all)) w w' := by
  obtain ⟨l1, l2, F, V, S, h1, h2⟩ := h
  refine (gwrite_in h1 l1 l2 hN g k hg hk s hs).mono ?_
  rintro e w2 ⟨x, rfl, hx, g2⟩
  refine ⟨x, rfl, ?_, g2⟩
  rcases hx with ⟨e, F', V', S', q1, q2⟩ | ⟨e, hgd, F', V', S', q1, q2⟩ | ⟨e, hc, f⟩
  · refine .inl ⟨e, l1, l2, F', V', S', q1, fun g3 k3 m h3 hk3 hm => ?_⟩
    refine (q2 g3 k3 m h3 hk3 hm).trans ?_
    show (if g3 = g ∧ k3 = k then wdL s.data.toList m else F (8 * S.fr g3 + k3) m) = if g3 = g ∧ k3 = k then wdL s.data.toList m else Y g3 k3 m
    split
    · rfl
    · exact h2 g3 k3 m h3 hk3 hm
  · exact .inr (.inl ⟨e, hgd, l1, l2, F', V', S', q1, fun g3 k3 m h3 hk3 hm => (q2 g3 k3 m h3 hk3 hm).trans (h2 g3 k3 m h3 hk3 hm)⟩)
  · refine .inr (.inr ⟨e, hc, f.imp fun F3 hF3 => ?_⟩)
    obtain ⟨Z, z1, z2, z3⟩ := hF3
    exact ⟨Z, fun g3 k3 m h3 hk3 hm hne => (z1 g3 k3 m h3 hk3 hm hne).trans (h2 g3 k3 m h3 hk3 hm), fun m hm => by rw [← h2 g k m hg hk hm]; exact z2 m hm, z3⟩
end
end Go.Proofs.YtifekejcbhllpaaGreat

/-
  Maps keyed by a pair of ints ([2]int), as functions of the pair: look-up, store.
-/
namespace Go.Proofs.YtifekejcbhllpaaGreat
open Go.RowKit
open Go.Maps (Keyed has)

/-- The key that a pair of ints is. -/
def pK (x y : Int) : Lit := .string (keyBytes [.int .i64 x, .int .i64 y])
section
variable {P : Program} {k e t : TypeId} {α : Type} {E : EltLaw P e α} {w w' : World} {b n : Nat} {f : Int → Int → Option α}
/-- The datum D is the function f. -/
def MIsP (E : EltLaw P e α) (D : DataW Unit) (f : Int → Int → Option α) : Prop := ∀ x y, WfZ x → WfZ y → has D (pK x y) = (f x y).isSome ∧ ∀ zd, D.atKey (pK x y) zd = ((f x y).map E.enc).getD zd
/-- Block b is a map of at most n entries, which is f. -/
def MapP (E : EltLaw P e α) (k : TypeId) (w : World) (b n : Nat) (f : Int → Int → Option α) : Prop := ∃ D, w.ownsMap P k E.R b n D ∧ MIsP E D f
theorem MapP.lt (h : MapP E k w b n f) : b < w.heap.size := by obtain ⟨D, h, _⟩ := h; exact h.lt
theorem MapP.mono {m : Nat} (h : MapP E k w b n f) (hm : n ≤ m) : MapP E k w b m f := by obtain ⟨D, h, q⟩ := h; exact ⟨D, h.mono hm, q⟩
theorem MapP.block (h : MapP E k w b n f) (hb : w'.heap[b]? = w.heap[b]?) : MapP E k w' b n f := by
  obtain ⟨D, ⟨es, clock, h1, h2, h3, h4⟩, q⟩ := h
  exact ⟨D, ⟨es, clock, hb.trans h1, h2, h3, h4⟩, q⟩
end
section
variable {P : Program} {k e t : TypeId} {α : Type} {E : EltLaw P e α} {w : World} {b n : Nat} {f : Int → Int → Option α} {ops : Array Oper} {rest : List Oper} {o : Oper} {a : Act} {Q : Exit → Act → World → Prop}
end
end Go.Proofs.YtifekejcbhllpaaGreat

/-
  HotTorn, HotKeeps: texts of pages, maps of texts by pairs, a fuse, what a Boot leaves, Open behind it.
-/
namespace Go.Proofs.YtifekejcbhllpaaGreat
open Go.RowKit
set_option linter.unusedVariables false

/-- The text of a page's line. -/
noncomputable def tY (Y : Nat → Nat → Nat → Nat) (g k : Nat) : ByteArray := lnF (fun _ => Y g k) 0
theorem tY_is {Y : Nat → Nat → Nat → Nat} {g k : Nat} {T : ByteArray} (h1 : T.size = 64) (h2 : ∀ m, m < 8 → wdL T.data.toList m = Y g k m) : tY Y g k = T := by
  have hx : ∃ t : ByteArray, t.size = 64 ∧ ∀ m, m < 8 → wdL t.data.toList m = Y g k m := ⟨T, h1, h2⟩
  unfold tY lnF
  rw [dif_pos hx]
  obtain ⟨s1, s2⟩ := Classical.choose_spec hx
  exact bytes_eq s1 h1 fun m hm => (s2 m hm).trans (h2 m hm).symm
section
variable {w w' : World} {X : HtA} {A : FlA} {a : DevA} {C : CfgZ} {gd cm : Bool} {F F' : Nat → Nat → Nat} {V V' : FlV} {c : Nat → Nat} {N N' lim : Nat} {S : HtS} {Y : Nat → Nat → Nat → Nat}
theorem HLg.text (h : HLg C X A a gd cm lim Y N w) (g k : Nat) (hg : g < pgC C) (hk : k < 8) : (tY Y g k).size = 64 ∧ (∀ m, m < 8 → wdL (tY Y g k).data.toList m = Y g k m) ∧ Calls Tryz.prog 62 #[.pointer (some ⟨X.pb, 0, none⟩), .int .i64 (g : Int), .int .i64 (k : Int)] w fun e w' => e = .returned (.tuple #[.string (tY Y g k), .int .i64 0]) ∧ Gr [] w w' := by
  obtain ⟨T, h1, h2, h3⟩ := h.read g k hg hk
  rw [tY_is h1 h2]
  exact ⟨h1, h2, h3⟩
theorem HtIs.any (h : HtIs w X A a C F V c N lim S) : HgIs w X A a C true true F V N lim S := ⟨.of h.fl.fl, h.pos, h.head, h.pls, h.hts, h.tks, h.na, h.nd, h.cap, h.inv, h.tab, h.mvb, h.htb⟩
theorem HL.any (h : HL C X A a lim Y N w) : HLg C X A a true true lim Y N w := by
  obtain ⟨l1, l2, F, V, c, S, h1, h2⟩ := h
  exact ⟨l1, l2, F, V, S, h1.any, h2⟩
end
end Go.Proofs.YtifekejcbhllpaaGreat
