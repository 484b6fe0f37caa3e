/-
  HkBh: HtI, HtJ.
-/
import Derived.Test.YtefmbchebobceaaGreatHkBg
import Derived.BigRegion

set_option linter.unusedVariables false

/-
  Layer 10: a page moves.
-/
namespace Go.Proofs.YtefmbchebobceaaGreat
open Go.RowKit
set_option linter.unusedVariables false

def cpF (F : Nat → Nat → Nat) (f q i : Nat) : Nat → Nat → Nat := fun l m => if 8 * q ≤ l ∧ l < 8 * q + i then F (8 * f + (l - 8 * q)) m else F l m
def movS (S : HtS) (g q : Nat) : HtS := ⟨updN S.fr g q, updN S.mv g (S.mv g + 1), S.ht, fun x => if x = q then true else if x = S.fr g then false else S.tk x⟩
section
variable {w w' : World} {X : HtA} {A : FlA} {a : DevA} {C : CfgZ} {F F' : Nat → Nat → Nat} {V V' : FlV} {c c' : Nat → Nat} {N N' lim : Nat} {S : HtS}
theorem HtIs.tkf (h : HtIs w X A a C F V c N lim S) {q : Nat} (hq : q < frmC C) (hf : S.tk q = false) : tbC C ≤ q ∧ ∀ g, g < pgC C → S.fr g ≠ q := by
  have hn : ¬ (q < tbC C ∨ ∃ g, g < pgC C ∧ S.fr g = q) := fun e => by rw [(h.inv.tk q hq).2 e] at hf; exact absurd hf (by simp)
  exact ⟨by omega, fun g hg e => hn (.inr ⟨g, hg, e⟩)⟩
theorem HtIs.setF (h : HtIs w X A a C F V c N lim S) (k : Gr (A.all (cR C) ++ a.all) w w') (fl : FLc C A a true F' V' c' N' w') (ht : ∀ g, g < pgC C → F' (g / 8) (g % 8) = F (g / 8) (g % 8)) (hN : N ≤ N') : HtIs w' X A a C F' V' c' N' lim S := by
  obtain ⟨c1, q1, q2⟩ := h.pls
  obtain ⟨c2, q3, q4⟩ := h.hts
  obtain ⟨c3, q5, q6⟩ := h.tks
  exact ⟨fl, h.pos, h.head.gr k (h.na _ (by simp [HtA.all])), ⟨c1, q1.gr k (h.na _ (by simp [HtA.all])), q2⟩, ⟨c2, q3.gr k (h.na _ (by simp [HtA.all])), q4⟩, ⟨c3, q5.gr k (h.na _ (by simp [HtA.all])), q6⟩, h.na, h.nd, h.cap, h.inv, fun g hg => (ht g hg).trans (h.tab g hg), fun g hg => Nat.le_trans (h.mvb g hg) hN, h.htb⟩
theorem HtP.mov (hC : OkC C) (hp : 0 < pgC C) (h : HtP C S) {g q : Nat} (hg : g < pgC C) (hq : q < frmC C) (ht : tbC C ≤ q) (hn : ∀ g, g < pgC C → S.fr g ≠ q) : HtP C (movS S g q) := by
  have hu : ∀ g2, (movS S g q).fr g2 = if g2 = g then q else S.fr g2 := fun g2 => rfl
  refine ⟨fun g2 h2 => ?_, fun g2 g3 h2 h3 e => ?_, fun x hx => ?_⟩
  · rw [hu]
    split
    · exact ⟨ht, hq⟩
    · exact h.lt g2 h2
  · rw [hu, hu] at e
    by_cases e2 : g2 = g
    · by_cases e3 : g3 = g
      · rw [e2, e3]
      · rw [if_pos e2, if_neg e3] at e
        exact absurd e.symm (hn g3 h3)
    · by_cases e3 : g3 = g
      · rw [if_neg e2, if_pos e3] at e
        exact absurd e (hn g2 h2)
      · rw [if_neg e2, if_neg e3] at e
        exact h.inj g2 g3 h2 h3 e
  · show (if x = q then true else if x = S.fr g then false else S.tk x) = true ↔ _
    by_cases c1 : x = q
    · rw [if_pos c1]
      exact ⟨fun _ => .inr ⟨g, hg, by rw [hu, if_pos rfl, c1]⟩, fun _ => rfl⟩
    · rw [if_neg c1]
      by_cases c2 : x = S.fr g
      · rw [if_pos c2]
        constructor
        · intro e; exact absurd e (by simp)
        · rintro (e | ⟨g2, h2, e⟩)
          · have := (h.lt g hg).1; omega
          · rw [hu] at e
            by_cases e2 : g2 = g
            · rw [if_pos e2] at e; exact absurd e.symm c1
            · rw [if_neg e2] at e
              exact absurd (h.inj g2 g h2 hg (e.trans c2)) e2
      · rw [if_neg c2, h.tk x hx]
        constructor
        · rintro (e | ⟨g2, h2, e⟩)
          · exact .inl e
          · refine .inr ⟨g2, h2, ?_⟩
            rw [hu, if_neg (fun e2 => c2 (by rw [← e, e2]))]
            exact e
        · rintro (e | ⟨g2, h2, e⟩)
          · exact .inl e
          · rw [hu] at e
            by_cases e2 : g2 = g
            · rw [if_pos e2] at e; exact absurd e.symm c1
            · rw [if_neg e2] at e
              exact .inr ⟨g2, h2, e⟩
theorem cpF_tab (hC : OkC C) (hp : 0 < pgC C) {f q i g : Nat} (hg : g < pgC C) (ht : tbC C ≤ q) (k : Nat) : cpF F f q i (g / 8) k = F (g / 8) k := by
  obtain ⟨n1, n2, n3, n4, n5, n6⟩ := pg_nums hC hp
  unfold cpF
  rw [if_neg (by omega)]
theorem cpF_own {f q i : Nat} (hfq : f ≠ q) (k : Nat) {j : Nat} (hj : j < 8) (hi : i ≤ 8) : cpF F f q i (8 * f + j) k = F (8 * f + j) k := by
  unfold cpF
  rw [if_neg (by omega)]
set_option maxRecDepth 100000 in
set_option maxHeartbeats 16000000 in
theorem hmove_any (h : HtIs w X A a C F V c N lim S) (hN : N < 480000000) (g q : Nat) (hg : g < pgC C) (hq : q < frmC C) (hf : S.tk q = false) :
    Calls Tryz.prog 166 #[.pointer (some ⟨X.pb, 0, none⟩), .int .i64 (g : Int), .int .i64 (q : Int)] w fun e w' => ∃ (F' : Nat → Nat → Nat) (V' : FlV) (c' : Nat → Nat), e = .returned (.int .i64 0) ∧ HtIs w' X A a C F' V' c' (N + 37800) lim (movS S g q) ∧ (∀ g2 k m, g2 < pgC C → k < 8 → F' (8 * (movS S g q).fr g2 + k) m = F (8 * S.fr g2 + k) m) ∧ Gr (X.all ++ (A.all (cR C) ++ a.all)) w w' := by
  have hC := h.fl.ok
  obtain ⟨n1, n2, n3, n4, n5, n6⟩ := pg_nums hC h.pos
  obtain ⟨tq1, tq2⟩ := h.tkf hq hf
  obtain ⟨f, hf0⟩ : ∃ f, f = S.fr g := ⟨_, rfl⟩
  obtain ⟨m, hm0⟩ : ∃ m, m = S.mv g := ⟨_, rfl⟩
  obtain ⟨l0, l1, l2⟩ := h.plAt hg
  have hfl : f < frmC C := by rw [hf0]; exact (h.inv.lt g hg).2
  have hfq : f ≠ q := by rw [hf0]; exact tq2 g hg
  have hmN : m ≤ N := by rw [hm0]; exact h.mvb g hg
  have HPU := Lib.hid (And.intro hC (And.intro h.pos (And.intro tq1 (And.intro tq2 (And.intro hf0 (And.intro hm0 hfl))))))
  have HNM := Lib.hid (And.intro n1 (And.intro n2 (And.intro hg hq)))
  have c5 := h.hc.2.2.2.2.1
  have H0 := Lib.hid h
  have hcap := h.cap
  rw [← hf0] at l0
  rw [← hm0] at l1
  obtain ⟨G, hG⟩ : ∃ G, G = pgC C := ⟨_, rfl⟩
  rw [← hG] at c5 hcap
  have g1 : (g : Int) < (G : Int) := by omega
  have g0 : (0 : Int) ≤ (g : Int) := by omega
  have ga := (Gr.refl [] w).alloc (Obj.cells #[.int .i64 (f : Int), .int .u32 (m : Int)] 114)
  have hw := Holds.new w #[.int .i64 (f : Int), .int .u32 (m : Int)] 114
  have H1 := Lib.hid (And.intro (h.gr0 ga) (And.intro hw (ga.of0 (cs := A.all (cR C) ++ a.all))))
  clear hf0 hm0 tq1 tq2 n1 n3 n4 n5 n6 h hC ga hw hf
  go_enter Tryz.func166, Tryz.ntmps166
  go_upto_region 2 with fail
  generalize w.alloc (Obj.cells #[.int .i64 (f : Int), .int .u32 (m : Int)] 114) = w1 at *
  obtain ⟨wb, hwb⟩ : ∃ b, b = w.heap.size := ⟨_, rfl⟩
  rw [← hwb] at H1 ⊢
  have HWB := Lib.hid hwb
  clear hwb l0 l1 l2 c5 hcap g0 g1
  go_wp2_with fail
  go_loopw [21] (fun iv wr => ∃ (i : Nat) (V1 : FlV) (c1 : Nat → Nat), iv = .int .i64 (i : Int) ∧ i ≤ 8 ∧ Hid (HtIs wr X A a C (cpF F f q i) V1 c1 (N + 4200 * i) lim S ∧ Holds wr wb #[.int .i64 (f : Int), .int .u32 (m : Int)] 114 ∧ Gr (A.all (cR C) ++ a.all) w wr)) (fun iv _ => 8 - (intOf iv).toNat)
  case atStart =>
    refine ⟨0, V, c, rfl, by omega, Lib.hid ⟨?_, H1.out.2.1, H1.out.2.2⟩⟩
    have e : cpF F f q 0 = F := by
      funext l k
      unfold cpF
      rw [if_neg (by omega)]
    rw [e]
    exact H1.out.1
  case round =>
    clear H1
    obtain ⟨i, V1, c1, rfl, hi, HH⟩ := hrel
    by_cases hi8 : i < 8
    · as_aux_lemma =>
        have ii : (i : Int) < 8 := by omega
        have ii0 : (0 : Int) ≤ (i : Int) := by omega
        have HI := Lib.hid hi8
        have hlf : 8 * f + i < cR C * cL C := by have := HNM.out.1; have := HPU.out.2.2.2.2.2.2; omega
        have hlq : 8 * q + i < cR C * cL C := by have := HNM.out; omega
        have HRd := Lib.hid (fun W (g1 : Gr [] wr W) => (HH.out.1.gr0 g1).fl.fl.read (8 * f + i) hlf)
        have hsz := HH.out.1.fl.fl.size (8 * f + i) hlf
        obtain ⟨T, hT⟩ : ∃ T, T = lnF (cpF F f q i) (8 * f + i) := ⟨_, rfl⟩
        rw [← hT] at HRd hsz
        have HT := Lib.hid hsz
        have HPt := Lib.hid (fun W (g1 : Gr [] wr W) => (HH.out.1.gr0 g1).fl.put (by omega) (8 * q + i) hlq T hsz.1)
        have HLQ := Lib.hid hlq
        obtain ⟨f8, hf8⟩ : ∃ x, x = 8 * f := ⟨_, rfl⟩
        obtain ⟨fi, hfi⟩ : ∃ x, x = 8 * f + i := ⟨_, rfl⟩
        obtain ⟨q8, hq8⟩ : ∃ x, x = 8 * q := ⟨_, rfl⟩
        obtain ⟨qi, hqi⟩ : ∃ x, x = 8 * q + i := ⟨_, rfl⟩
        rw [← hfi] at HRd
        rw [← hqi] at HPt
        have w1' : IntKind.i64.wrap ((f : Int) * 8) = (f8 : Int) := by rw [show (f : Int) * 8 = (f8 : Int) by omega]; exact IntWalk.i64_in _ (by omega)
        have w2' : IntKind.i64.wrap ((f8 : Int) + (i : Int)) = (fi : Int) := by rw [show (f8 : Int) + (i : Int) = (fi : Int) by omega]; exact IntWalk.i64_in _ (by omega)
        have w3' : IntKind.i64.wrap ((q : Int) * 8) = (q8 : Int) := by rw [show (q : Int) * 8 = (q8 : Int) by omega]; exact IntWalk.i64_in _ (by omega)
        have w4' : IntKind.i64.wrap ((q8 : Int) + (i : Int)) = (qi : Int) := by rw [show (q8 : Int) + (i : Int) = (qi : Int) by omega]; exact IntWalk.i64_in _ (by omega)
        have HQI := Lib.hid hqi
        clear hT hsz hlf hlq hf8 hfi hq8 hqi
        go_upto_region 5 with fail
        have k0 := kp_cell HH.out.1.hc.1
        have k1 := kp_cell (HH.out.2.1.cell 0)
        have hne := kp_ne wr
        refine wp_region_kp (by kernel_rfl) (by kernel_rfl) ?_
        repeat (go_big_quiet_step ((rename_i x; exact kp_call x ((HRd.out _ (Gr.ofBelow (cs := []) x.h)).mono fun _ _ q => ⟨q.1, q.2.below0⟩))))
        with_reducible refine wpQuiet_nil ?_
        rintro _ ⟨y, rfl⟩
        have gy := Lib.hid (Gr.ofBelow (cs := []) y.h)
        clear k0 k1 hne HRd
        generalize y.w = w2 at *
        clear y
        have c0 := (HH.out.1.gr0 gy.out).hc.1
        go_wp2_with fail
        refine (HPt.out _ gy.out).mono ?_
        rintro e w3 ⟨V2, rfl, e3, f3, g3⟩
        have H3 := Lib.hid (show HtIs w3 X A a C (cpF F f q (i + 1)) V2 _ (N + 4200 * (i + 1)) lim S ∧ Holds w3 wb #[.int .i64 (f : Int), .int .u32 (m : Int)] 114 ∧ Gr (A.all (cR C) ++ a.all) w w3 from ⟨(HH.out.1.gr0 gy.out).setF g3 ((f3.congr (F' := cpF F f q (i + 1)) (fun l k hl hk => by
          rw [HQI.out]
          by_cases c1 : l = 8 * q + i
          · rw [if_pos c1, HT.out.2 k hk, cpF_own hfq k HI.out (by omega), c1]
            unfold cpF
            rw [if_pos (by omega), show 8 * q + i - 8 * q = i by omega]
          · rw [if_neg c1]
            unfold cpF
            by_cases c2 : 8 * q ≤ l ∧ l < 8 * q + i
            · rw [if_pos c2, if_pos (by omega)]
            · rw [if_neg c2, if_neg (by omega)])).more (by omega)) (fun g2 h2 => by rw [cpF_tab HPU.out.1 HPU.out.2.1 h2 HPU.out.2.2.1, cpF_tab HPU.out.1 HPU.out.2.1 h2 HPU.out.2.2.1]) (by omega), (HH.out.2.1.gr0 gy.out).gr g3 (fun e => by have h1 := H0.out.lt wb (List.mem_append.2 (.inr e)); have h2 := HWB.out; omega), (HH.out.2.2.next0 gy.out).trans g3⟩)
        clear e3 f3 g3 c0 HPt HH gy
        go_wp2_with fail
        go_roundw
        case rel => exact ⟨i + 1, _, _, by go_num, HI.out, Lib.hid H3.out⟩
        case measure => simp [intOf]; omega
    · obtain rfl : i = 8 := by omega
      clear hi hi8
      have z0 := HH.out.2.1.cell 0
      have z1 := HH.out.2.1.cell 1
      obtain ⟨m1, hm1⟩ : ∃ x, x = m + 1 := ⟨_, rfl⟩
      have wm : IntKind.u32.wrap ((m : Int) + 1) = (m1 : Int) := by rw [IntKind.wrap_u32]; omega
      have HM1 := Lib.hid (And.intro hm1 (show m1 < 4294967296 by omega))
      clear hm1
      have ga := (Gr.refl [] wr).alloc (Obj.cells #[.int .i64 (q : Int), .int .u32 (m1 : Int)] 114)
      have hi2 := Holds.new wr #[.int .i64 (q : Int), .int .u32 (m1 : Int)] 114
      have H2 := Lib.hid (And.intro (HH.out.1.gr0 ga) (And.intro (HH.out.2.1.gr0 ga) (And.intro (HH.out.2.2.next0 ga) hi2)))
      have HIB := Lib.hid (show w.heap.size < wr.heap.size ∧ (∀ x ∈ X.all ++ (A.all (cR C) ++ a.all), x < wr.heap.size) from ⟨by have := HH.out.2.1.lt; have := HWB.out; omega, HH.out.1.lt⟩)
      go_upto_region 13 with fail
      clear z0 z1 wm ga hi2 HH
      generalize wr.alloc (Obj.cells #[.int .i64 (q : Int), .int .u32 (m1 : Int)] 114) = w2 at *
      obtain ⟨ib, hib⟩ : ∃ b, b = wr.heap.size := ⟨_, rfl⟩
      rw [← hib] at H2 HIB ⊢
      clear hib
      have HEn := Lib.hid (henter_any (N := N + 33600) (H2.out.1.fl.more (by omega)) H2.out.1.hc.1 (by omega) g q m1 (by have := HNM.out; have := pg_nums HPU.out.1 HPU.out.2.1; omega) (by have := HNM.out; have := pg_nums HPU.out.1 HPU.out.2.1; omega) (by have := HNM.out; omega) HM1.out.2)
      have y0 := H2.out.2.2.2.cell 0
      have y1 := H2.out.2.2.2.cell 1
      go_wp2_with fail
      refine HEn.out.mono ?_
      rintro e w3 ⟨V3, rfl, e3, f3, g3⟩
      have hnb : ∀ x ∈ A.all (cR C) ++ a.all, x < ib := fun x hx => HIB.out.2 x (List.mem_append.2 (.inr hx))
      have hib3 := H2.out.2.2.2.gr g3 (fun e => by have := hnb _ e; omega)
      have hwb3 := H2.out.2.1.gr g3 (fun e => by have h1 := H0.out.lt wb (List.mem_append.2 (.inr e)); have h2 := HWB.out; omega)
      obtain ⟨p1, pq1, pq2⟩ := H2.out.1.pls
      obtain ⟨p2, pq3, pq4⟩ := H2.out.1.hts
      obtain ⟨p3, pq5, pq6⟩ := H2.out.1.tks
      have na := H2.out.1.na
      have pq1 := pq1.gr g3 (na _ (by simp [HtA.all]))
      have pq3 := pq3.gr g3 (na _ (by simp [HtA.all]))
      have pq5 := pq5.gr g3 (na _ (by simp [HtA.all]))
      have hd3 := H2.out.1.head.gr g3 (na _ (by simp [HtA.all]))
      have H3 := Lib.hid (And.intro f3 (And.intro hd3 (And.intro pq1 (And.intro pq2 (And.intro pq3 (And.intro pq4 (And.intro pq5 (And.intro pq6 (And.intro hib3 (And.intro hwb3 (H2.out.2.2.1.trans g3)))))))))))
      clear e3 f3 g3 hnb hib3 hwb3 pq1 pq2 pq3 pq4 pq5 pq6 na hd3 y0 y1 HEn
      go_upto_region 16 with fail
      have c5 : w3.cell? ⟨X.pb, 5, none⟩ = some (.slice (some ⟨X.lb, 0, none⟩) (pgC C) X.cl) := H3.out.2.1.cell 5
      have y0 := H3.out.2.2.2.2.2.2.2.2.1.cell 0
      have y1 := H3.out.2.2.2.2.2.2.2.2.1.cell 1
      obtain ⟨u0, u1⟩ := H3.out.2.2.2.1 g HNM.out.2.2.1
      have s0 := (H3.out.2.2.1.cell (g * 2)).trans u0
      have s1 := (H3.out.2.2.1.cell (g * 2 + 1)).trans u1
      have f0 := H3.out.2.2.1.frozen (g * 2)
      have f1 := H3.out.2.2.1.frozen (g * 2 + 1)
      have hg2 := HNM.out.2.2.1
      have g1 : (g : Int) < (G : Int) := by omega
      have g0 : (0 : Int) ≤ (g : Int) := by omega
      rw [← hG] at c5
      have hlbib : ib ≠ X.lb := by have := HIB.out.2 X.lb (by simp [HtA.all]); omega
      have hlbib' : ¬ X.lb = ib := fun e => hlbib e.symm
      go_region
      have nd := H2.out.1.nd
      have na := H2.out.1.na
      have hxw : ∀ x ∈ X.all, x < w.heap.size := fun x hx => H0.out.lt x (List.mem_append.2 (.inl hx))
      have hwbX : ∀ x ∈ X.all, wb ≠ x := fun x hx e => by have h1 := hxw x hx; have h2 := HWB.out; omega
      have dr := (Gr.refl [] ((w3.setCell ⟨X.lb, g * 2, none⟩ (.int .i64 (q : Int))).setCell ⟨X.lb, g * 2 + 1, none⟩ (.int .u32 (m1 : Int)))).drew
      have hd4 := ((H3.out.2.1.far (a := ⟨X.lb, g * 2, none⟩) nd.1 (.int .i64 (q : Int))).far (a := ⟨X.lb, g * 2 + 1, none⟩) nd.1 (.int .u32 (m1 : Int))).gr0 dr
      have hp4 := ((H3.out.2.2.1.set (g * 2) (.int .i64 (q : Int))).set (g * 2 + 1) (.int .u32 (m1 : Int))).gr0 dr
      have hh4 := ((H3.out.2.2.2.2.1.far (a := ⟨X.lb, g * 2, none⟩) (fun e => nd.2.2.2.1 e.symm) (.int .i64 (q : Int))).far (a := ⟨X.lb, g * 2 + 1, none⟩) (fun e => nd.2.2.2.1 e.symm) (.int .u32 (m1 : Int))).gr0 dr
      have ht4 := ((H3.out.2.2.2.2.2.2.1.far (a := ⟨X.lb, g * 2, none⟩) (fun e => nd.2.2.2.2.1 e.symm) (.int .i64 (q : Int))).far (a := ⟨X.lb, g * 2 + 1, none⟩) (fun e => nd.2.2.2.2.1 e.symm) (.int .u32 (m1 : Int))).gr0 dr
      have hw4 := ((H3.out.2.2.2.2.2.2.2.2.2.1.far (a := ⟨X.lb, g * 2, none⟩) (hwbX _ (by simp [HtA.all])) (.int .i64 (q : Int))).far (a := ⟨X.lb, g * 2 + 1, none⟩) (hwbX _ (by simp [HtA.all])) (.int .u32 (m1 : Int))).gr0 dr
      have gr4 : Gr [X.lb] w3 _ := (((Gr.refl [X.lb] w3).setCell (p := ⟨X.lb, g * 2, none⟩) (.inl (by simp)) (.int .i64 (q : Int))).setCell (p := ⟨X.lb, g * 2 + 1, none⟩) (.inl (by simp)) (.int .u32 (m1 : Int))).drew
      have fl4 := H3.out.1.gr gr4 (fun x hx e => by
        have : x = X.lb := by simpa using e
        subst this
        exact na _ (by simp [HtA.all]) hx)
      have H4 := Lib.hid (And.intro fl4 (And.intro hd4 (And.intro hp4 (And.intro hh4 (And.intro ht4 (And.intro hw4 gr4))))))
      have HND := Lib.hid (And.intro nd na)
      clear dr hd4 hp4 hh4 ht4 hw4 gr4 fl4 c5 y0 y1 u0 u1 s0 s1 f0 f1 hlbib hlbib' nd na hxw hwbX
      generalize ((w3.setCell ⟨X.lb, g * 2, none⟩ (.int .i64 (q : Int))).setCell ⟨X.lb, g * 2 + 1, none⟩ (.int .u32 (m1 : Int))).drew = w4 at *
      go_upto_region 17 with fail
      have c7 : w4.cell? ⟨X.pb, 7, none⟩ = some (.slice (some ⟨X.tb, 0, none⟩) (frmC C) (frmC C)) := H4.out.2.1.cell 7
      have z0 := H4.out.2.2.2.2.2.1.cell 0
      have s0 := (H4.out.2.2.2.2.1.cell f).trans (H3.out.2.2.2.2.2.2.2.1 f HPU.out.2.2.2.2.2.2)
      have s1 := (H4.out.2.2.2.2.1.cell q).trans (H3.out.2.2.2.2.2.2.2.1 q HNM.out.2.2.2)
      have f0 := H4.out.2.2.2.2.1.frozen f
      have f1 := H4.out.2.2.2.2.1.frozen q
      obtain ⟨HH, hHH⟩ : ∃ x, x = frmC C := ⟨_, rfl⟩
      rw [← hHH] at c7
      have q1 : (q : Int) < (HH : Int) := by omega
      have q0 : (0 : Int) ≤ (q : Int) := by omega
      have q3 : (f : Int) < (HH : Int) := by omega
      have q2 : (0 : Int) ≤ (f : Int) := by omega
      have hqf : ¬ q = f := fun e => hfq e.symm
      generalize S.tk f = bf at *
      generalize S.tk q = bq at *
      go_region
      have dr := (Gr.refl [] ((w4.setCell ⟨X.tb, f, none⟩ (.bool false)).setCell ⟨X.tb, q, none⟩ (.bool true))).drew
      have nd := HND.out.1
      have hd5 := ((H4.out.2.1.far (a := ⟨X.tb, f, none⟩) nd.2.2.1 (.bool false)).far (a := ⟨X.tb, q, none⟩) nd.2.2.1 (.bool true)).gr0 dr
      have hp5 := ((H4.out.2.2.1.far (a := ⟨X.tb, f, none⟩) nd.2.2.2.2.1 (.bool false)).far (a := ⟨X.tb, q, none⟩) nd.2.2.2.2.1 (.bool true)).gr0 dr
      have hh5 := ((H4.out.2.2.2.1.far (a := ⟨X.tb, f, none⟩) nd.2.2.2.2.2 (.bool false)).far (a := ⟨X.tb, q, none⟩) nd.2.2.2.2.2 (.bool true)).gr0 dr
      have ht5 := ((H4.out.2.2.2.2.1.set f (.bool false)).set q (.bool true)).gr0 dr
      have gr5 : Gr [X.tb] w4 _ := (((Gr.refl [X.tb] w4).setCell (p := ⟨X.tb, f, none⟩) (.inl (by simp)) (.bool false)).setCell (p := ⟨X.tb, q, none⟩) (.inl (by simp)) (.bool true)).drew
      have fl5 := H4.out.1.gr gr5 (fun x hx e => by
        have : x = X.tb := by simpa using e
        subst this
        exact HND.out.2 _ (by simp [HtA.all]) hx)
      have H5 := Lib.hid (And.intro fl5 (And.intro hd5 (And.intro hp5 (And.intro hh5 (And.intro ht5 gr5)))))
      clear dr hd5 hp5 hh5 ht5 gr5 fl5 c7 z0 s0 s1 f0 f1 nd
      generalize ((w4.setCell ⟨X.tb, f, none⟩ (.bool false)).setCell ⟨X.tb, q, none⟩ (.bool true)).drew = w5 at *
      go_wp2_with fail
      go_ret
      obtain ⟨hC, hp, tq1, tq2, hf0, hm0, hfl2⟩ := HPU.out
      obtain ⟨n1, n2, n3, n4, n5, n6⟩ := pg_nums hC hp
      have hg' := HNM.out.2.2.1
      have hq' := HNM.out.2.2.2
      have hfr : ∀ g2, (movS S g q).fr g2 = if g2 = g then q else S.fr g2 := fun g2 => rfl
      have hmv : ∀ g2, (movS S g q).mv g2 = if g2 = g then S.mv g + 1 else S.mv g2 := fun g2 => rfl
      have hinv := H2.out.1.inv
      have hm1 := HM1.out.1
      refine ⟨_, V3, _, rfl, ⟨H5.out.1.more (by omega), hp, H5.out.2.1, ⟨_, H5.out.2.2.1, fun g2 h2 => ?_⟩, ⟨p2, H5.out.2.2.2.1, H3.out.2.2.2.2.2.1⟩, ⟨_, H5.out.2.2.2.2.1, fun x hx => ?_⟩, HND.out.2, HND.out.1, H2.out.1.cap, hinv.mov hC hp hg' hq' tq1 tq2, fun g2 h2 => ?_, fun g2 h2 => ?_, H2.out.1.htb⟩, fun g2 k m2 h2 hk => ?_, ?_⟩
      · obtain ⟨v0, v1⟩ := H3.out.2.2.2.1 g2 h2
        have b0 := (Array.getElem?_eq_some_iff.1 v1).1
        obtain ⟨x0, x1⟩ := H3.out.2.2.2.1 g hg'
        have b1 := (Array.getElem?_eq_some_iff.1 x1).1
        rw [hfr, hmv]
        simp only [Array.getElem?_setIfInBounds, Array.size_setIfInBounds]
        by_cases e : g2 = g
        · subst e
          have d1 : ¬ g2 * 2 + 1 = g2 * 2 := by omega
          rw [if_neg d1, if_pos rfl, if_pos (by omega), if_pos rfl, if_pos rfl, if_pos (by omega), if_pos rfl, hm1, hm0]
          exact ⟨rfl, rfl⟩
        · have d1 : ¬ g * 2 + 1 = g2 * 2 := by omega
          have d2 : ¬ g * 2 = g2 * 2 := by omega
          have d3 : ¬ g * 2 + 1 = g2 * 2 + 1 := by omega
          have d4 : ¬ g * 2 = g2 * 2 + 1 := by omega
          rw [if_neg d1, if_neg d2, if_neg d3, if_neg d4, if_neg e, if_neg e]
          exact ⟨v0, v1⟩
      · have v0 := H3.out.2.2.2.2.2.2.2.1 x hx
        have b0 := (Array.getElem?_eq_some_iff.1 v0).1
        show _ = some (Value.bool (if x = q then true else if x = S.fr g then false else S.tk x))
        rw [← hf0]
        simp only [Array.getElem?_setIfInBounds, Array.size_setIfInBounds]
        by_cases e : x = q
        · subst e
          rw [if_pos rfl, if_pos b0, if_pos rfl]
        · rw [if_neg (fun e2 => e e2.symm), if_neg e]
          by_cases e2 : x = f
          · subst e2
            rw [if_pos rfl, if_pos b0, if_pos rfl]
          · rw [if_neg (fun e3 => e2 e3.symm), if_neg e2]
            exact v0
      · have ht := H2.out.1.tab g2 h2
        show (if g2 / 8 = g / 8 then updF (cpF F f q 8 (g / 8)) (g % 8) (guardN (m1 * 65536 + q)) (g2 % 8) else cpF F f q 8 (g2 / 8) (g2 % 8)) = _
        unfold keyT
        rw [hfr, hmv]
        by_cases e : g2 = g
        · subst e
          rw [if_pos rfl, if_pos rfl, if_pos rfl, hm1, hm0]
          unfold updF
          rw [if_pos rfl]
        · rw [if_neg e, if_neg e]
          by_cases e8 : g2 / 8 = g / 8
          · rw [if_pos e8]
            unfold updF
            rw [if_neg (by omega), ← e8]
            exact ht
          · rw [if_neg e8]
            exact ht
      · rw [hmv]
        have h1 := H2.out.1.mvb g2 h2
        have h3 := H2.out.1.mvb g hg'
        have hNN : S.mv g2 ≤ N := H0.out.mvb g2 h2
        have hNg : S.mv g ≤ N := H0.out.mvb g hg'
        split <;> omega
      · rw [hfr]
        show (if 8 * (if g2 = g then q else S.fr g2) + k = g / 8 then _ else cpF F f q 8 (8 * (if g2 = g then q else S.fr g2) + k) m2) = _
        by_cases e : g2 = g
        · subst e
          rw [if_pos rfl, if_neg (by omega)]
          unfold cpF
          rw [if_pos (by omega), show 8 * q + k - 8 * q = k by omega, hf0]
        · have hl := hinv.lt g2 h2
          have hn := tq2 g2 h2
          rw [if_neg e, if_neg (by omega)]
          unfold cpF
          rw [if_neg (by omega)]
      · refine ((H3.out.2.2.2.2.2.2.2.2.2.2.mono (fun x hx => List.mem_append.2 (.inr hx))).trans (H4.out.2.2.2.2.2.2.mono (fun x hx => ?_))).trans (H5.out.2.2.2.2.2.mono (fun x hx => ?_))
        · have : x = X.lb := by simpa using hx
          subst this
          simp [HtA.all]
        · have : x = X.tb := by simpa using hx
          subst this
          simp [HtA.all]
end
end Go.Proofs.YtefmbchebobceaaGreat

/-
  Layer 10: a hot page is examined.
-/
namespace Go.Proofs.YtefmbchebobceaaGreat
open Go.RowKit
set_option linter.unusedVariables false

theorem fld_s10 (x y : Int) (W : World) : (Instr.field 242 (.agg #[.int .i64 x, .int .u32 y]) 1).run Tryz.prog W = .ok (.int .u32 y) W := by kernel_rfl
section
variable {w w' : World} {X : HtA} {A : FlA} {a : DevA} {C : CfgZ} {F F' : Nat → Nat → Nat} {V V' : FlV} {c c' : Nat → Nat} {N N' lim : Nat} {S : HtS}
theorem key_le {C : CfgZ} {J : Nat → Nat} {q q2 : Nat} (hq : q < 65536) (hq2 : q2 < 65536) (h : keyQ10 C J q ≤ keyQ10 C J q2) : J (qL C (8 * q)) ≤ J (qL C (8 * q2)) := by
  unfold keyQ10 at h
  omega
inductive Looked (C : CfgZ) (S : HtS) (J : Nat → Nat) (g : Nat) (F : Nat → Nat → Nat) (V : FlV) (c : Nat → Nat) (S1 : HtS) (F1 : Nat → Nat → Nat) (V1 : FlV) (c1 : Nat → Nat) : Prop
  | stay : S1 = S → F1 = F → V1 = V → c1 = c → (∀ q, q < frmC C → S.tk q = false → J (qL C (8 * S.fr g)) ≤ J (qL C (8 * q))) → Looked C S J g F V c S1 F1 V1 c1
  | moved (q : Nat) : S1 = movS S g q → q < frmC C → S.tk q = false → J (qL C (8 * q)) < J (qL C (8 * S.fr g)) → (∀ g2 k m, g2 < pgC C → k < 8 → F1 (8 * S1.fr g2 + k) m = F (8 * S.fr g2 + k) m) → Looked C S J g F V c S1 F1 V1 c1
theorem Looked.same {S1 : HtS} {F1 : Nat → Nat → Nat} {V1 : FlV} {c1 : Nat → Nat} {J : Nat → Nat} {g : Nat} (h : Looked C S J g F V c S1 F1 V1 c1) : (∀ g2 k m, g2 < pgC C → k < 8 → F1 (8 * S1.fr g2 + k) m = F (8 * S.fr g2 + k) m) ∧ S1.ht = S.ht := by
  cases h with
  | stay h1 h2 h3 h4 h5 => rw [h1, h2]; exact ⟨fun _ _ _ _ _ => rfl, rfl⟩
  | moved q h1 h2 h3 h4 h5 => exact ⟨h5, by rw [h1]; rfl⟩
set_option maxRecDepth 100000 in
set_option maxHeartbeats 16000000 in
theorem hexam_any (h : HtIs w X A a C F V c N lim S) (hN : N < 480000000) (g : Nat) (hg : g < pgC C) :
    Calls Tryz.prog 109 #[.pointer (some ⟨X.pb, 0, none⟩), .int .i64 (g : Int)] w fun e w' => ∃ (F1 : Nat → Nat → Nat) (V1 : FlV) (c1 : Nat → Nat) (S1 : HtS), e = .returned (.int .i64 0) ∧ HtIs w' X A a C F1 V1 c1 (N + 37800) lim S1 ∧ Looked C S V.J g F V c S1 F1 V1 c1 ∧ Gr (X.all ++ (A.all (cR C) ++ a.all)) w w' := by
  have hC := h.fl.ok
  obtain ⟨n1, n2, n3, n4, n5, n6⟩ := pg_nums hC h.pos
  have HCo := Lib.hid (hcool_any h)
  have H0 := Lib.hid h
  have HNM := Lib.hid (And.intro n2 hg)
  have hfl : S.fr g < frmC C := (h.inv.lt g hg).2
  have HSp := Lib.hid (fun W (g1 : Gr [] w W) => hspot_any (h.gr0 g1) (S.fr g) hfl)
  have HPl := Lib.hid (fun W (g1 : Gr [] w W) => And.intro (h.gr0 g1).hc.2.2.2.2.1 ((h.gr0 g1).plAt hg).1)
  obtain ⟨f, hf0⟩ : ∃ f, f = S.fr g := ⟨_, rfl⟩
  obtain ⟨Jf, hJf⟩ : ∃ J, J = V.J (qL C (8 * S.fr g)) := ⟨_, rfl⟩
  rw [← hJf, ← hf0] at HSp
  rw [← hf0] at HPl
  have HJF := Lib.hid hJf
  obtain ⟨G, hG⟩ : ∃ G, G = pgC C := ⟨_, rfl⟩
  rw [← hG] at HPl
  have g1 : (g : Int) < (G : Int) := by omega
  have g0 : (0 : Int) ≤ (g : Int) := by omega
  have fld := fld_s10
  have hcap := h.cap
  rw [← hG] at hcap
  clear n1 n3 n4 n5 n6 h hC hfl hf0 hJf
  go_enter Tryz.func109, Tryz.ntmps109
  go_wp2_with fail
  refine HCo.out.mono ?_
  rintro e w2 ⟨q, hq, hqf, hmin, rfl, g2⟩
  obtain ⟨Jq, hJq⟩ : ∃ J, J = V.J (qL C (8 * q)) := ⟨_, rfl⟩
  rw [← hJq]
  have HQ := Lib.hid (And.intro hq (And.intro hqf (And.intro hmin (And.intro hJq g2))))
  have ga := g2.alloc (Obj.cells #[.int .i64 (q : Int), .int .u32 (Jq : Int)] 242)
  have hb := Holds.new w2 #[.int .i64 (q : Int), .int .u32 (Jq : Int)] 242
  have H3 := Lib.hid (And.intro ga hb)
  clear hq hqf hmin hJq g2 ga hb HCo
  go_upto_region 2 with fail
  generalize w2.alloc (Obj.cells #[.int .i64 (q : Int), .int .u32 (Jq : Int)] 242) = w3 at *
  obtain ⟨sb, hsb⟩ : ∃ b, w2.heap.size = b := ⟨_, rfl⟩
  rw [hsb] at H3 ⊢
  clear hsb
  have k0 := kp_cell (H3.out.2.cell 0)
  have k1 := kp_cell (H3.out.2.cell 1)
  have k2 := kp_cell (HPl.out _ H3.out.1).1
  have k3 := kp_cell (HPl.out _ H3.out.1).2
  have hne := kp_ne w3
  refine wp_region_kp (by kernel_rfl) (by kernel_rfl) ?_
  repeat (go_big_quiet_step ((rename_i x; exact kp_call x ((HSp.out _ (H3.out.1.trans (Gr.ofBelow (cs := []) x.h))).mono fun _ _ q => ⟨q.1, q.2.below0⟩))))
  with_reducible refine wpQuiet_nil ?_
  rintro _ ⟨y, rfl⟩
  have H4 := Lib.hid (And.intro (H3.out.1.trans (Gr.ofBelow (cs := []) y.h)) (H3.out.2.gr0 (Gr.ofBelow (cs := []) y.h)))
  clear k0 k1 k2 k3 hne H3 HSp HPl
  generalize y.w = w4 at *
  clear y
  obtain ⟨hq, hqf, hmin, hJq, g2⟩ := HQ.out
  by_cases hJ : Jf ≤ Jq
  · have hJb : decide (Jf ≤ Jq) = true := decide_eq_true hJ
    have HJ := Lib.hid hJ
    clear hJ hq hqf hmin hJq g2
    go_wp2_with fail
    go_ret
    obtain ⟨hq, hqf, hmin, hJq, g2⟩ := HQ.out
    refine ⟨F, V, c, S, rfl, ⟨(H0.out.gr0 H4.out.1).fl.more (by omega), H0.out.pos, (H0.out.gr0 H4.out.1).head, (H0.out.gr0 H4.out.1).pls, (H0.out.gr0 H4.out.1).hts, (H0.out.gr0 H4.out.1).tks, H0.out.na, H0.out.nd, H0.out.cap, H0.out.inv, H0.out.tab, fun g2 h2 => Nat.le_trans (H0.out.mvb g2 h2) (by omega), H0.out.htb⟩, .stay rfl rfl rfl rfl (fun q2 h2 h3 => ?_), H4.out.1.of0⟩
    have := key_le (by omega) (by omega) (hmin q2 h2 h3)
    rw [← HJF.out]
    have := HJ.out
    omega
  · have hJb : decide (Jf ≤ Jq) = false := decide_eq_false hJ
    have HJ := Lib.hid hJ
    clear hJ hq hqf hmin hJq g2
    have HMv := Lib.hid (fun W (g1 : Gr [] w W) => hmove_any (H0.out.gr0 g1) hN g q HNM.out.2 HQ.out.1 HQ.out.2.1)
    have z0 := H4.out.2.cell 0
    go_wp2_with fail
    refine (HMv.out _ H4.out.1).mono ?_
    rintro e w5 ⟨F1, V1, c1, rfl, h5, x5, g5⟩
    have H5 := Lib.hid (And.intro h5 (And.intro x5 ((H4.out.1.of0 (cs := X.all ++ (A.all (cR C) ++ a.all))).trans g5)))
    clear h5 x5 g5
    go_wp2_with fail
    go_ret
    exact ⟨F1, V1, c1, movS S g q, rfl, H5.out.1, .moved q rfl HQ.out.1 HQ.out.2.1 (by have h1 := HQ.out.2.2.2.1; have h2 := HJF.out; have h3 := HJ.out; rw [← h1, ← h2]; omega) H5.out.2.1, H5.out.2.2⟩
end
end Go.Proofs.YtefmbchebobceaaGreat
