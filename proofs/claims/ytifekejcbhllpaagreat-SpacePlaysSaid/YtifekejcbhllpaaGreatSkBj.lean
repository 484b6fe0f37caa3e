/-
  Layer 10: a page moves, whatever comes.
-/
import Derived.Test.YtifekejcbhllpaaGreatSkBi
import Derived.Test.YtifekejcbhllpaaGreatSkBf
import Derived.BigRegion

namespace Go.Proofs.YtifekejcbhllpaaGreat
open Go.RowKit
set_option linter.unusedVariables false

theorem TbO.line {C : CfgZ} {F : Nat → Nat → Nat} {fr mv : Nat → Nat} (hC : OkC C) (hp : 0 < pgC C) (h : TbO C F fr mv) {l : Nat} (hl : 8 * tbC C ≤ l) (H : Nat → Nat) : TbO C (fun l2 k => if l2 = l then H k else F l2 k) fr mv := by
  obtain ⟨n1, n2, n3, n4, n5, n6⟩ := pg_nums hC hp
  refine ⟨h.lt, h.inj, fun g hg => ?_, h.mv⟩
  show (if g / 8 = l then _ else _) = _
  rw [if_neg (by omega)]
  exact h.tab g hg
theorem cpF_far {F : Nat → Nat → Nat} {f q i f2 : Nat} (h : f2 ≠ q) (k m : Nat) (hk : k < 8) (hi : i ≤ 8) : cpF F f q i (8 * f2 + k) m = F (8 * f2 + k) m := by
  unfold cpF
  rw [if_neg (by omega)]
/-- What comes of a move, or of a look. -/
def MvP (C : CfgZ) (X : HtA) (A : FlA) (a : DevA) (gd cm : Bool) (lim : Nat) (F : Nat → Nat → Nat) (S S' : HtS) (N : Nat) (x : Int) (w : World) : Prop :=
  (x = 0 ∧ ∃ F' V', HgIs w X A a C gd cm F' V' N lim S' ∧ ∀ g k m, g < pgC C → k < 8 → F' (8 * S'.fr g + k) m = F (8 * S.fr g + k) m) ∨
  (x = 10 ∧ gd = false ∧ ∃ F' V', HgIs w X A a C gd cm F' V' N lim S ∧ ∀ g k m, g < pgC C → k < 8 → F' (8 * S.fr g + k) m = F (8 * S.fr g + k) m) ∨
  (x = 6 ∧ cm = false ∧ FLo C a gd (PgY C (ySee F S) N) N w)
/-- The table's word of a page that moved, or not: the pages read the same. -/
theorem entered_torn {C : CfgZ} {F : Nat → Nat → Nat} {S : HtS} {g q m1 N : Nat} {H : Nat → Nat} (hC : OkC C) (hp : 0 < pgC C) (inv : HtP C S) (ht : TbO C F S.fr S.mv) (hg : g < pgC C) (hq : q < frmC C) (tq : tbC C ≤ q) (hn : ∀ g, g < pgC C → S.fr g ≠ q)
    (hm1 : m1 = S.mv g + 1) (hmN : ∀ g, g < pgC C → S.mv g + 1 ≤ N) (hN : N < 4294967296) (hcp : ∀ k m, k < 8 → F (8 * q + k) m = F (8 * S.fr g + k) m) (hH : One2 (F (g / 8)) (updF (F (g / 8)) (g % 8) (guardN (m1 * 65536 + q))) H) :
    PgY C (ySee F S) N (fun l2 k => if l2 = g / 8 then H k else F l2 k) := by
  obtain ⟨n1, n2, n3, n4, n5, n6⟩ := pg_nums hC hp
  have hmv := hmN g hg
  rcases hH with hH | hH
  · refine ⟨S.fr, S.mv, ⟨ht.lt, ht.inj, fun g2 h2 => ?_, ht.mv⟩, fun g2 h2 => by have := hmN g2 h2; omega, fun g2 k m h2 hk hm => ?_⟩
    · show (if g2 / 8 = g / 8 then H (g2 % 8) else F (g2 / 8) (g2 % 8)) = _
      rw [← ht.tab g2 h2]
      split
      · rename_i e
        rw [hH _ (Nat.mod_lt _ (by omega)), e]
      · rfl
    · have := ht.lt g2 h2
      show (if 8 * S.fr g2 + k = g / 8 then _ else _) = _
      rw [if_neg (by omega)]
      rfl
  · have hu : ∀ g2, updN S.fr g q g2 = if g2 = g then q else S.fr g2 := fun g2 => rfl
    have hv : ∀ g2, updN S.mv g m1 g2 = if g2 = g then m1 else S.mv g2 := fun g2 => rfl
    have hI := inv.mov hC hp hg hq tq hn
    refine ⟨updN S.fr g q, updN S.mv g m1, ⟨hI.lt, hI.inj, fun g2 h2 => ?_, fun g2 h2 => ?_⟩, fun g2 h2 => ?_, fun g2 k m h2 hk hm => ?_⟩
    · show (if g2 / 8 = g / 8 then H (g2 % 8) else F (g2 / 8) (g2 % 8)) = _
      rw [hu, hv]
      by_cases e : g2 = g
      · subst e
        rw [if_pos rfl, if_pos rfl, if_pos rfl, hH _ (Nat.mod_lt _ (by omega))]
        unfold updF
        rw [if_pos rfl]
      · rw [if_neg e, if_neg e, ← ht.tab g2 h2]
        split
        · rename_i e8
          rw [hH _ (Nat.mod_lt _ (by omega))]
          unfold updF
          rw [if_neg (by omega), e8]
        · rfl
    · rw [hv]
      have := ht.mv g2 h2
      split <;> omega
    · rw [hv]
      have := hmN g2 h2
      split <;> omega
    · have h3 := ht.lt g2 h2
      rw [hu]
      show (if 8 * (if g2 = g then q else S.fr g2) + k = g / 8 then _ else F (8 * (if g2 = g then q else S.fr g2) + k) m) = F (8 * S.fr g2 + k) m
      by_cases e : g2 = g
      · subst e
        rw [if_pos rfl, if_neg (by omega)]
        exact hcp k m hk
      · rw [if_neg e, if_neg (by omega)]
section
variable {w w' : World} {X : HtA} {A : FlA} {a : DevA} {C : CfgZ} {gd cm : Bool} {F F' : Nat → Nat → Nat} {V V' : FlV} {N N' lim : Nat} {S : HtS}
set_option maxRecDepth 100000 in
set_option maxHeartbeats 16000000 in
theorem gmove_any (h : HgIs w X A a C gd cm F V N lim S) (hN : N < 480000000) (g q : Nat) (hg : g < pgC C) (hq : q < frmC C) (hf : S.tk q = false) :
    Calls Tryz.prog 130 #[.pointer (some ⟨X.pb, 0, none⟩), .int .i64 (g : Int), .int .i64 (q : Int)] w fun e w' => ∃ x : Int, e = .returned (.int .i64 x) ∧ MvP C X A a gd cm lim F S (movS S g q) (N + 37800) x w' ∧ Gr (X.all ++ (A.all (cR C) ++ a.all)) w w' := by
  have hC := h.fl.ok
  obtain ⟨n1, n2, n3, n4, n5, n6⟩ := pg_nums hC h.pos
  obtain ⟨tq1, tq2⟩ := h.tkf hq hf
  obtain ⟨f, hf0⟩ : ∃ f, f = S.fr g := ⟨_, rfl⟩
  obtain ⟨m, hm0⟩ : ∃ m, m = S.mv g := ⟨_, rfl⟩
  obtain ⟨l0, l1, l2⟩ := h.plAt hg
  have hfl : f < frmC C := by rw [hf0]; exact (h.inv.lt g hg).2
  have hfq : f ≠ q := by rw [hf0]; exact tq2 g hg
  have hmN : m ≤ N := by rw [hm0]; exact h.mvb g hg
  have HPU := Lib.hid (And.intro hC (And.intro h.pos (And.intro tq1 (And.intro tq2 (And.intro hf0 (And.intro hm0 hfl))))))
  have HNM := Lib.hid (And.intro n1 (And.intro n2 (And.intro hg hq)))
  have c5 := h.hc.2.2.2.2.1
  have H0 := Lib.hid h
  have hcap := h.cap
  rw [← hf0] at l0
  rw [← hm0] at l1
  obtain ⟨G, hG⟩ : ∃ G, G = pgC C := ⟨_, rfl⟩
  rw [← hG] at c5 hcap
  have g1 : (g : Int) < (G : Int) := by omega
  have g0 : (0 : Int) ≤ (g : Int) := by omega
  have ga := (Gr.refl [] w).alloc (Obj.cells #[.int .i64 (f : Int), .int .u32 (m : Int)] 97)
  have hw := Holds.new w #[.int .i64 (f : Int), .int .u32 (m : Int)] 97
  have H1 := Lib.hid (And.intro (h.gr0 ga) (And.intro hw (ga.of0 (cs := A.all (cR C) ++ a.all))))
  clear hf0 hm0 tq1 tq2 n1 n3 n4 n5 n6 h hC ga hw hf
  go_enter Tryz.func130, Tryz.ntmps130
  go_upto_region 2 with fail
  generalize w.alloc (Obj.cells #[.int .i64 (f : Int), .int .u32 (m : Int)] 97) = w1 at *
  obtain ⟨wb, hwb⟩ : ∃ b, b = w.heap.size := ⟨_, rfl⟩
  rw [← hwb] at H1 ⊢
  have HWB := Lib.hid hwb
  clear hwb l0 l1 l2 c5 hcap g0 g1
  go_wp2_with fail
  go_loopw [21] (fun iv wr => ∃ (i : Nat) (V1 : FlV), iv = .int .i64 (i : Int) ∧ i ≤ 8 ∧ Hid (HgIs wr X A a C gd cm (cpF F f q i) V1 (N + 4200 * i) lim S ∧ Holds wr wb #[.int .i64 (f : Int), .int .u32 (m : Int)] 97 ∧ Gr (A.all (cR C) ++ a.all) w wr)) (fun iv _ => 8 - (intOf iv).toNat)
  case atStart =>
    refine ⟨0, V, rfl, by omega, Lib.hid ⟨?_, H1.out.2.1, H1.out.2.2⟩⟩
    have e : cpF F f q 0 = F := by
      funext l k
      unfold cpF
      rw [if_neg (by omega)]
    rw [e]
    exact H1.out.1
  case round =>
    clear H1
    obtain ⟨i, V1, rfl, hi, HH⟩ := hrel
    by_cases hi8 : i < 8
    · as_aux_lemma =>
        have ii : (i : Int) < 8 := by omega
        have ii0 : (0 : Int) ≤ (i : Int) := by omega
        have HI := Lib.hid hi8
        have hlf : 8 * f + i < cR C * cL C := by have := HNM.out.1; have := HPU.out.2.2.2.2.2.2; omega
        have hlq : 8 * q + i < cR C * cL C := by have := HNM.out; omega
        have HRd := Lib.hid (fun W (g1 : Gr [] wr W) => (HH.out.1.gr0 g1).fl.read (8 * f + i) hlf)
        have hsz := HH.out.1.fl.size (8 * f + i) hlf
        obtain ⟨T, hT⟩ : ∃ T, T = lnF (cpF F f q i) (8 * f + i) := ⟨_, rfl⟩
        rw [← hT] at HRd hsz
        have HT := Lib.hid hsz
        have HPt := Lib.hid (fun W (g1 : Gr [] wr W) => (HH.out.1.gr0 g1).fl.put (by omega) (8 * q + i) hlq T hsz.1)
        have HLQ := Lib.hid hlq
        obtain ⟨f8, hf8⟩ : ∃ x, x = 8 * f := ⟨_, rfl⟩
        obtain ⟨fi, hfi⟩ : ∃ x, x = 8 * f + i := ⟨_, rfl⟩
        obtain ⟨q8, hq8⟩ : ∃ x, x = 8 * q := ⟨_, rfl⟩
        obtain ⟨qi, hqi⟩ : ∃ x, x = 8 * q + i := ⟨_, rfl⟩
        rw [← hfi] at HRd
        rw [← hqi] at HPt
        have w1' : IntKind.i64.wrap ((f : Int) * 8) = (f8 : Int) := by rw [show (f : Int) * 8 = (f8 : Int) by omega]; exact IntWalk.i64_in _ (by omega)
        have w2' : IntKind.i64.wrap ((f8 : Int) + (i : Int)) = (fi : Int) := by rw [show (f8 : Int) + (i : Int) = (fi : Int) by omega]; exact IntWalk.i64_in _ (by omega)
        have w3' : IntKind.i64.wrap ((q : Int) * 8) = (q8 : Int) := by rw [show (q : Int) * 8 = (q8 : Int) by omega]; exact IntWalk.i64_in _ (by omega)
        have w4' : IntKind.i64.wrap ((q8 : Int) + (i : Int)) = (qi : Int) := by rw [show (q8 : Int) + (i : Int) = (qi : Int) by omega]; exact IntWalk.i64_in _ (by omega)
        have HQI := Lib.hid hqi
        clear hT hsz hlf hlq hf8 hfi hq8 hqi
        go_upto_region 5 with fail
        have k0 := kp_cell HH.out.1.hc.1
        have k1 := kp_cell (HH.out.2.1.cell 0)
        have hne := kp_ne wr
        refine wp_region_kp (by kernel_rfl) (by kernel_rfl) ?_
        repeat (go_big_quiet_step ((rename_i x; exact kp_call x ((HRd.out _ (Gr.ofBelow (cs := []) x.h)).mono fun _ _ q => ⟨q.1, q.2.below0⟩))))
        with_reducible refine wpQuiet_nil ?_
        rintro _ ⟨y, rfl⟩
        have gy := Lib.hid (Gr.ofBelow (cs := []) y.h)
        clear k0 k1 hne HRd
        generalize y.w = w2 at *
        clear y
        have c0 := (HH.out.1.gr0 gy.out).hc.1
        go_wp2_with fail
        refine (HPt.out _ gy.out).mono ?_
        rintro e w3 ⟨x, rfl, f3, g3⟩
        have HKG := Lib.hid (show (∀ (F' : Nat → Nat → Nat) (V' : FlV) (N' : Nat), (∀ g2, g2 < pgC C → F' (g2 / 8) (g2 % 8) = F (g2 / 8) (g2 % 8)) → N + 4200 * i ≤ N' → FLx C A a gd cm F' V' N' w3 → HgIs w3 X A a C gd cm F' V' N' lim S) ∧ Holds w3 wb #[.int .i64 (f : Int), .int .u32 (m : Int)] 97 ∧ Gr (A.all (cR C) ++ a.all) w w3 ∧ TbO C (cpF F f q i) S.fr S.mv ∧ ∀ g2, g2 < pgC C → S.mv g2 ≤ N from ⟨fun F' V' N' ht hN2 fx => (HH.out.1.gr0 gy.out).setF g3 fx (fun g2 h2 => (ht g2 h2).trans (cpF_tab HPU.out.1 HPU.out.2.1 h2 HPU.out.2.2.1 _).symm) hN2, (HH.out.2.1.gr0 gy.out).gr g3 (fun e => by have h1 := H0.out.lt wb (List.mem_append.2 (.inr e)); have h2 := HWB.out; omega), (HH.out.2.2.next0 gy.out).trans g3, HH.out.1.tbo (by omega), H0.out.mvb⟩)
        clear g3 c0 HPt HH gy
        rcases f3 with ⟨rfl, V2, f3⟩ | ⟨rfl, hgd, V2, f3⟩ | ⟨rfl, hcm, f3⟩
        · have H3 := Lib.hid (show HgIs w3 X A a C gd cm (cpF F f q (i + 1)) V2 (N + 4200 * (i + 1)) lim S ∧ Holds w3 wb #[.int .i64 (f : Int), .int .u32 (m : Int)] 97 ∧ Gr (A.all (cR C) ++ a.all) w w3 from ⟨HKG.out.1 _ _ _ (fun g2 h2 => cpF_tab HPU.out.1 HPU.out.2.1 h2 HPU.out.2.2.1 _) (by omega) ((f3.congr (F' := cpF F f q (i + 1)) (fun l k hl hk => by
            rw [HQI.out]
            by_cases c1 : l = 8 * q + i
            · rw [if_pos c1, HT.out.2 k hk, cpF_own hfq k HI.out (by omega), c1]
              unfold cpF
              rw [if_pos (by omega), show 8 * q + i - 8 * q = i by omega]
            · rw [if_neg c1]
              unfold cpF
              by_cases c2 : 8 * q ≤ l ∧ l < 8 * q + i
              · rw [if_pos c2, if_pos (by omega)]
              · rw [if_neg c2, if_neg (by omega)])).more (by omega)), HKG.out.2.1, HKG.out.2.2.1⟩)
          clear f3 HKG
          go_wp2_with fail
          go_roundw
          case rel => exact ⟨i + 1, _, by go_num, HI.out, Lib.hid H3.out⟩
          case measure => simp [intOf]; omega
        · have H3 := Lib.hid (And.intro hgd f3)
          clear f3 hgd
          go_wp2_with fail
          go_ret
          refine ⟨10, rfl, .inr (.inl ⟨rfl, H3.out.1, cpF F f q i, V2, HKG.out.1 _ _ _ (fun g2 h2 => cpF_tab HPU.out.1 HPU.out.2.1 h2 HPU.out.2.2.1 _) (by omega) (H3.out.2.more (by omega)), fun g2 k m2 h2 hk => cpF_far (HPU.out.2.2.2.1 g2 h2) k m2 hk (by omega)⟩), HKG.out.2.2.1.mono (fun x hx => List.mem_append.2 (.inr hx))⟩
        · have H3 := Lib.hid (And.intro hcm f3)
          clear f3 hcm
          go_wp2_with fail
          go_ret
          refine ⟨6, rfl, .inr (.inr ⟨rfl, H3.out.1, (H3.out.2.imp fun F3 hF3 => ?_).more (by omega)⟩), HKG.out.2.2.1.mono (fun x hx => List.mem_append.2 (.inr hx))⟩
          obtain ⟨H, rfl, _⟩ := hF3
          have tq1 := HPU.out.2.2.1
          refine ⟨S.fr, S.mv, HKG.out.2.2.2.1.line HPU.out.1 HPU.out.2.1 (by rw [HQI.out]; omega) H, fun g2 h2 => by have := HKG.out.2.2.2.2 g2 h2; omega, fun g2 k m2 h2 hk hm => ?_⟩
          have hne := HPU.out.2.2.2.1 g2 h2
          show (if 8 * S.fr g2 + k = qi then _ else _) = _
          rw [if_neg (by rw [HQI.out]; omega)]
          exact cpF_far hne k m2 hk (by omega)
    · obtain rfl : i = 8 := by omega
      clear hi hi8
      have z0 := HH.out.2.1.cell 0
      have z1 := HH.out.2.1.cell 1
      obtain ⟨m1, hm1⟩ : ∃ x, x = m + 1 := ⟨_, rfl⟩
      have wm : IntKind.u32.wrap ((m : Int) + 1) = (m1 : Int) := by rw [IntKind.wrap_u32]; omega
      have HM1 := Lib.hid (And.intro hm1 (show m1 < 4294967296 by omega))
      clear hm1
      have ga := (Gr.refl [] wr).alloc (Obj.cells #[.int .i64 (q : Int), .int .u32 (m1 : Int)] 97)
      have hi2 := Holds.new wr #[.int .i64 (q : Int), .int .u32 (m1 : Int)] 97
      have H2 := Lib.hid (And.intro (HH.out.1.gr0 ga) (And.intro (HH.out.2.1.gr0 ga) (And.intro (HH.out.2.2.next0 ga) hi2)))
      have HIB := Lib.hid (show w.heap.size < wr.heap.size ∧ (∀ x ∈ X.all ++ (A.all (cR C) ++ a.all), x < wr.heap.size) from ⟨by have := HH.out.2.1.lt; have := HWB.out; omega, HH.out.1.lt⟩)
      go_upto_region 13 with fail
      clear z0 z1 wm ga hi2 HH
      generalize wr.alloc (Obj.cells #[.int .i64 (q : Int), .int .u32 (m1 : Int)] 97) = w2 at *
      obtain ⟨ib, hib⟩ : ∃ b, b = wr.heap.size := ⟨_, rfl⟩
      rw [← hib] at H2 HIB ⊢
      clear hib
      have HEn := Lib.hid (genter_any (N := N + 33600) (H2.out.1.fl.more (by omega)) H2.out.1.hc.1 (by omega) g q m1 (by have := HNM.out; have := pg_nums HPU.out.1 HPU.out.2.1; omega) (by have := HNM.out; have := pg_nums HPU.out.1 HPU.out.2.1; omega) (by have := HNM.out; omega) HM1.out.2)
      have y0 := H2.out.2.2.2.cell 0
      have y1 := H2.out.2.2.2.cell 1
      go_wp2_with fail
      refine HEn.out.mono ?_
      rintro e w3 ⟨xx, rfl, f3, g3⟩
      have hnb : ∀ x ∈ A.all (cR C) ++ a.all, x < ib := fun x hx => HIB.out.2 x (List.mem_append.2 (.inr hx))
      have hib3 := H2.out.2.2.2.gr g3 (fun e => by have := hnb _ e; omega)
      have hwb3 := H2.out.2.1.gr g3 (fun e => by have h1 := H0.out.lt wb (List.mem_append.2 (.inr e)); have h2 := HWB.out; omega)
      obtain ⟨p1, pq1, pq2⟩ := H2.out.1.pls
      obtain ⟨p2, pq3, pq4⟩ := H2.out.1.hts
      obtain ⟨p3, pq5, pq6⟩ := H2.out.1.tks
      have na := H2.out.1.na
      have pq1 := pq1.gr g3 (na _ (by simp [HtA.all]))
      have pq3 := pq3.gr g3 (na _ (by simp [HtA.all]))
      have pq5 := pq5.gr g3 (na _ (by simp [HtA.all]))
      have hd3 := H2.out.1.head.gr g3 (na _ (by simp [HtA.all]))
      have HKG := Lib.hid (show (∀ (V' : FlV) (N' : Nat), N + 33600 ≤ N' → FLx C A a gd cm (cpF F f q 8) V' N' w3 → HgIs w3 X A a C gd cm (cpF F f q 8) V' N' lim S) ∧ TbO C (cpF F f q 8) S.fr S.mv ∧ (∀ g2, g2 < pgC C → S.mv g2 ≤ N) ∧ Gr (A.all (cR C) ++ a.all) w w3 from ⟨fun V' N' hN2 fx => H2.out.1.setF g3 fx (fun _ _ => rfl) (by omega), H2.out.1.tbo (by omega), H0.out.mvb, H2.out.2.2.1.trans g3⟩)
      rcases f3 with ⟨rfl, V3, f3⟩ | ⟨rfl, hgd, V3, f3⟩ | ⟨rfl, hcm, f3⟩
      rotate_left
      · have H3 := Lib.hid (And.intro hgd f3)
        clear f3 g3 hgd hnb hib3 hwb3 pq1 pq2 pq3 pq4 pq5 pq6 na hd3 y0 y1 HEn
        go_wp2_with fail
        go_ret
        refine ⟨10, rfl, .inr (.inl ⟨rfl, H3.out.1, cpF F f q 8, V3, HKG.out.1 _ _ (by omega) (H3.out.2.more (by omega)), fun g2 k m2 h2 hk => cpF_far (HPU.out.2.2.2.1 g2 h2) k m2 hk (by omega)⟩), HKG.out.2.2.2.mono (fun x hx => List.mem_append.2 (.inr hx))⟩
      · have H3 := Lib.hid (And.intro hcm f3)
        clear f3 g3 hcm hnb hib3 hwb3 pq1 pq2 pq3 pq4 pq5 pq6 na hd3 y0 y1 HEn
        go_wp2_with fail
        go_ret
        refine ⟨6, rfl, .inr (.inr ⟨rfl, H3.out.1, (H3.out.2.imp fun F3 hF3 => ?_).more (by omega)⟩), HKG.out.2.2.2.mono (fun x hx => List.mem_append.2 (.inr hx))⟩
        obtain ⟨H, rfl, hH⟩ := hF3
        have hm0 := HPU.out.2.2.2.2.2.1
        have hf0 := HPU.out.2.2.2.2.1
        have e1 := entered_torn (N := N + 37800) HPU.out.1 HPU.out.2.1 H2.out.1.inv HKG.out.2.1 HNM.out.2.2.1 HNM.out.2.2.2 HPU.out.2.2.1 HPU.out.2.2.2.1 (by rw [← hm0]; exact HM1.out.1) (fun g2 h2 => by have := HKG.out.2.2.1 g2 h2; omega) (by omega) (fun k m2 hk => by
          rw [cpF_far (HPU.out.2.2.2.1 g HNM.out.2.2.1) k m2 hk (by omega), ← hf0]
          unfold cpF
          rw [if_pos (by omega), show 8 * q + k - 8 * q = k by omega]) hH
        obtain ⟨fr, mv, t1, t2, t3⟩ := e1
        exact ⟨fr, mv, t1, t2, fun g2 k m2 h2 hk hm => (t3 g2 k m2 h2 hk hm).trans (cpF_far (HPU.out.2.2.2.1 g2 h2) k m2 hk (by omega))⟩
      have H3 := Lib.hid (And.intro f3 (And.intro hd3 (And.intro pq1 (And.intro pq2 (And.intro pq3 (And.intro pq4 (And.intro pq5 (And.intro pq6 (And.intro hib3 (And.intro hwb3 (H2.out.2.2.1.trans g3)))))))))))
      clear f3 g3 hnb hib3 hwb3 pq1 pq2 pq3 pq4 pq5 pq6 na hd3 y0 y1 HEn
      go_upto_region 16 with fail
      have c5 : w3.cell? ⟨X.pb, 5, none⟩ = some (.slice (some ⟨X.lb, 0, none⟩) (pgC C) X.cl) := H3.out.2.1.cell 5
      have y0 := H3.out.2.2.2.2.2.2.2.2.1.cell 0
      have y1 := H3.out.2.2.2.2.2.2.2.2.1.cell 1
      obtain ⟨u0, u1⟩ := H3.out.2.2.2.1 g HNM.out.2.2.1
      have s0 := (H3.out.2.2.1.cell (g * 2)).trans u0
      have s1 := (H3.out.2.2.1.cell (g * 2 + 1)).trans u1
      have f0 := H3.out.2.2.1.frozen (g * 2)
      have f1 := H3.out.2.2.1.frozen (g * 2 + 1)
      have hg2 := HNM.out.2.2.1
      have g1 : (g : Int) < (G : Int) := by omega
      have g0 : (0 : Int) ≤ (g : Int) := by omega
      rw [← hG] at c5
      have hlbib : ib ≠ X.lb := by have := HIB.out.2 X.lb (by simp [HtA.all]); omega
      have hlbib' : ¬ X.lb = ib := fun e => hlbib e.symm
      go_region
      have nd := H2.out.1.nd
      have na := H2.out.1.na
      have hxw : ∀ x ∈ X.all, x < w.heap.size := fun x hx => H0.out.lt x (List.mem_append.2 (.inl hx))
      have hwbX : ∀ x ∈ X.all, wb ≠ x := fun x hx e => by have h1 := hxw x hx; have h2 := HWB.out; omega
      have dr := (Gr.refl [] ((w3.setCell ⟨X.lb, g * 2, none⟩ (.int .i64 (q : Int))).setCell ⟨X.lb, g * 2 + 1, none⟩ (.int .u32 (m1 : Int)))).drew
      have hd4 := ((H3.out.2.1.far (a := ⟨X.lb, g * 2, none⟩) nd.1 (.int .i64 (q : Int))).far (a := ⟨X.lb, g * 2 + 1, none⟩) nd.1 (.int .u32 (m1 : Int))).gr0 dr
      have hp4 := ((H3.out.2.2.1.set (g * 2) (.int .i64 (q : Int))).set (g * 2 + 1) (.int .u32 (m1 : Int))).gr0 dr
      have hh4 := ((H3.out.2.2.2.2.1.far (a := ⟨X.lb, g * 2, none⟩) (fun e => nd.2.2.2.1 e.symm) (.int .i64 (q : Int))).far (a := ⟨X.lb, g * 2 + 1, none⟩) (fun e => nd.2.2.2.1 e.symm) (.int .u32 (m1 : Int))).gr0 dr
      have ht4 := ((H3.out.2.2.2.2.2.2.1.far (a := ⟨X.lb, g * 2, none⟩) (fun e => nd.2.2.2.2.1 e.symm) (.int .i64 (q : Int))).far (a := ⟨X.lb, g * 2 + 1, none⟩) (fun e => nd.2.2.2.2.1 e.symm) (.int .u32 (m1 : Int))).gr0 dr
      have hw4 := ((H3.out.2.2.2.2.2.2.2.2.2.1.far (a := ⟨X.lb, g * 2, none⟩) (hwbX _ (by simp [HtA.all])) (.int .i64 (q : Int))).far (a := ⟨X.lb, g * 2 + 1, none⟩) (hwbX _ (by simp [HtA.all])) (.int .u32 (m1 : Int))).gr0 dr
      have gr4 : Gr [X.lb] w3 _ := (((Gr.refl [X.lb] w3).setCell (p := ⟨X.lb, g * 2, none⟩) (.inl (by simp)) (.int .i64 (q : Int))).setCell (p := ⟨X.lb, g * 2 + 1, none⟩) (.inl (by simp)) (.int .u32 (m1 : Int))).drew
      have fl4 := H3.out.1.gr gr4 (fun x hx e => by
        have : x = X.lb := by simpa using e
        subst this
        exact na _ (by simp [HtA.all]) hx)
      have H4 := Lib.hid (And.intro fl4 (And.intro hd4 (And.intro hp4 (And.intro hh4 (And.intro ht4 (And.intro hw4 gr4))))))
      have HND := Lib.hid (And.intro nd na)
      clear dr hd4 hp4 hh4 ht4 hw4 gr4 fl4 c5 y0 y1 u0 u1 s0 s1 f0 f1 hlbib hlbib' nd na hxw hwbX
      generalize ((w3.setCell ⟨X.lb, g * 2, none⟩ (.int .i64 (q : Int))).setCell ⟨X.lb, g * 2 + 1, none⟩ (.int .u32 (m1 : Int))).drew = w4 at *
      go_upto_region 17 with fail
      have c7 : w4.cell? ⟨X.pb, 7, none⟩ = some (.slice (some ⟨X.tb, 0, none⟩) (frmC C) (frmC C)) := H4.out.2.1.cell 7
      have z0 := H4.out.2.2.2.2.2.1.cell 0
      have s0 := (H4.out.2.2.2.2.1.cell f).trans (H3.out.2.2.2.2.2.2.2.1 f HPU.out.2.2.2.2.2.2)
      have s1 := (H4.out.2.2.2.2.1.cell q).trans (H3.out.2.2.2.2.2.2.2.1 q HNM.out.2.2.2)
      have f0 := H4.out.2.2.2.2.1.frozen f
      have f1 := H4.out.2.2.2.2.1.frozen q
      obtain ⟨HH, hHH⟩ : ∃ x, x = frmC C := ⟨_, rfl⟩
      rw [← hHH] at c7
      have q1 : (q : Int) < (HH : Int) := by omega
      have q0 : (0 : Int) ≤ (q : Int) := by omega
      have q3 : (f : Int) < (HH : Int) := by omega
      have q2 : (0 : Int) ≤ (f : Int) := by omega
      have hqf : ¬ q = f := fun e => hfq e.symm
      generalize S.tk f = bf at *
      generalize S.tk q = bq at *
      go_region
      have dr := (Gr.refl [] ((w4.setCell ⟨X.tb, f, none⟩ (.bool false)).setCell ⟨X.tb, q, none⟩ (.bool true))).drew
      have nd := HND.out.1
      have hd5 := ((H4.out.2.1.far (a := ⟨X.tb, f, none⟩) nd.2.2.1 (.bool false)).far (a := ⟨X.tb, q, none⟩) nd.2.2.1 (.bool true)).gr0 dr
      have hp5 := ((H4.out.2.2.1.far (a := ⟨X.tb, f, none⟩) nd.2.2.2.2.1 (.bool false)).far (a := ⟨X.tb, q, none⟩) nd.2.2.2.2.1 (.bool true)).gr0 dr
      have hh5 := ((H4.out.2.2.2.1.far (a := ⟨X.tb, f, none⟩) nd.2.2.2.2.2 (.bool false)).far (a := ⟨X.tb, q, none⟩) nd.2.2.2.2.2 (.bool true)).gr0 dr
      have ht5 := ((H4.out.2.2.2.2.1.set f (.bool false)).set q (.bool true)).gr0 dr
      have gr5 : Gr [X.tb] w4 _ := (((Gr.refl [X.tb] w4).setCell (p := ⟨X.tb, f, none⟩) (.inl (by simp)) (.bool false)).setCell (p := ⟨X.tb, q, none⟩) (.inl (by simp)) (.bool true)).drew
      have fl5 := H4.out.1.gr gr5 (fun x hx e => by
        have : x = X.tb := by simpa using e
        subst this
        exact HND.out.2 _ (by simp [HtA.all]) hx)
      have H5 := Lib.hid (And.intro fl5 (And.intro hd5 (And.intro hp5 (And.intro hh5 (And.intro ht5 gr5)))))
      clear dr hd5 hp5 hh5 ht5 gr5 fl5 c7 z0 s0 s1 f0 f1 nd
      generalize ((w4.setCell ⟨X.tb, f, none⟩ (.bool false)).setCell ⟨X.tb, q, none⟩ (.bool true)).drew = w5 at *
      go_wp2_with fail
      go_ret
      obtain ⟨hC, hp, tq1, tq2, hf0, hm0, hfl2⟩ := HPU.out
      obtain ⟨n1, n2, n3, n4, n5, n6⟩ := pg_nums hC hp
      have hg' := HNM.out.2.2.1
      have hq' := HNM.out.2.2.2
      have hfr : ∀ g2, (movS S g q).fr g2 = if g2 = g then q else S.fr g2 := fun g2 => rfl
      have hmv : ∀ g2, (movS S g q).mv g2 = if g2 = g then S.mv g + 1 else S.mv g2 := fun g2 => rfl
      have hinv := H2.out.1.inv
      have hm1 := HM1.out.1
      refine ⟨0, rfl, .inl ⟨rfl, _, V3, ⟨H5.out.1.more (by omega), hp, H5.out.2.1, ⟨_, H5.out.2.2.1, fun g2 h2 => ?_⟩, ⟨p2, H5.out.2.2.2.1, H3.out.2.2.2.2.2.1⟩, ⟨_, H5.out.2.2.2.2.1, fun x hx => ?_⟩, HND.out.2, HND.out.1, H2.out.1.cap, hinv.mov hC hp hg' hq' tq1 tq2, fun g2 h2 => ?_, fun g2 h2 => ?_, H2.out.1.htb⟩, fun g2 k m2 h2 hk => ?_⟩, ?_⟩
      · obtain ⟨v0, v1⟩ := H3.out.2.2.2.1 g2 h2
        have b0 := (Array.getElem?_eq_some_iff.1 v1).1
        obtain ⟨x0, x1⟩ := H3.out.2.2.2.1 g hg'
        have b1 := (Array.getElem?_eq_some_iff.1 x1).1
        rw [hfr, hmv]
        simp only [Array.getElem?_setIfInBounds, Array.size_setIfInBounds]
        by_cases e : g2 = g
        · subst e
          have d1 : ¬ g2 * 2 + 1 = g2 * 2 := by omega
          rw [if_neg d1, if_pos rfl, if_pos (by omega), if_pos rfl, if_pos rfl, if_pos (by omega), if_pos rfl, hm1, hm0]
          exact ⟨rfl, rfl⟩
        · have d1 : ¬ g * 2 + 1 = g2 * 2 := by omega
          have d2 : ¬ g * 2 = g2 * 2 := by omega
          have d3 : ¬ g * 2 + 1 = g2 * 2 + 1 := by omega
          have d4 : ¬ g * 2 = g2 * 2 + 1 := by omega
          rw [if_neg d1, if_neg d2, if_neg d3, if_neg d4, if_neg e, if_neg e]
          exact ⟨v0, v1⟩
      · have v0 := H3.out.2.2.2.2.2.2.2.1 x hx
        have b0 := (Array.getElem?_eq_some_iff.1 v0).1
        show _ = some (Value.bool (if x = q then true else if x = S.fr g then false else S.tk x))
        rw [← hf0]
        simp only [Array.getElem?_setIfInBounds, Array.size_setIfInBounds]
        by_cases e : x = q
        · subst e
          rw [if_pos rfl, if_pos b0, if_pos rfl]
        · rw [if_neg (fun e2 => e e2.symm), if_neg e]
          by_cases e2 : x = f
          · subst e2
            rw [if_pos rfl, if_pos b0, if_pos rfl]
          · rw [if_neg (fun e3 => e2 e3.symm), if_neg e2]
            exact v0
      · have ht := H2.out.1.tab g2 h2
        show (if g2 / 8 = g / 8 then updF (cpF F f q 8 (g / 8)) (g % 8) (guardN (m1 * 65536 + q)) (g2 % 8) else cpF F f q 8 (g2 / 8) (g2 % 8)) = _
        unfold keyT
        rw [hfr, hmv]
        by_cases e : g2 = g
        · subst e
          rw [if_pos rfl, if_pos rfl, if_pos rfl, hm1, hm0]
          unfold updF
          rw [if_pos rfl]
        · rw [if_neg e, if_neg e]
          by_cases e8 : g2 / 8 = g / 8
          · rw [if_pos e8]
            unfold updF
            rw [if_neg (by omega), ← e8]
            exact ht
          · rw [if_neg e8]
            exact ht
      · rw [hmv]
        have h1 := H2.out.1.mvb g2 h2
        have h3 := H2.out.1.mvb g hg'
        have hNN : S.mv g2 ≤ N := H0.out.mvb g2 h2
        have hNg : S.mv g ≤ N := H0.out.mvb g hg'
        split <;> omega
      · rw [hfr]
        show (if 8 * (if g2 = g then q else S.fr g2) + k = g / 8 then _ else cpF F f q 8 (8 * (if g2 = g then q else S.fr g2) + k) m2) = _
        by_cases e : g2 = g
        · subst e
          rw [if_pos rfl, if_neg (by omega)]
          unfold cpF
          rw [if_pos (by omega), show 8 * q + k - 8 * q = k by omega, hf0]
        · have hl := hinv.lt g2 h2
          have hn := tq2 g2 h2
          rw [if_neg e, if_neg (by omega)]
          unfold cpF
          rw [if_neg (by omega)]
      · refine ((H3.out.2.2.2.2.2.2.2.2.2.2.mono (fun x hx => List.mem_append.2 (.inr hx))).trans (H4.out.2.2.2.2.2.2.mono (fun x hx => ?_))).trans (H5.out.2.2.2.2.2.mono (fun x hx => ?_))
        · have : x = X.lb := by simpa using hx
          subst this
          simp [HtA.all]
        · have : x = X.tb := by simpa using hx
          subst this
          simp [HtA.all]
end
end Go.Proofs.YtifekejcbhllpaaGreat
