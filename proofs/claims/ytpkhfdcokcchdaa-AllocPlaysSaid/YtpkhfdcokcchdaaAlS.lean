/-
  alloc: Give.
-/
import Derived.Test.YtpkhfdcokcchdaaAlR
namespace Go.Proofs.Ytpkhfdcokcchdaa
open Go.RowKit

theorem Holds.setA {W : World} {b : Nat} {x y : Value} {t : TypeId} (h : Holds W b #[x, y] t) (x' : Value) : Holds (W.setCell ⟨b, 0, none⟩ x') b #[x', y] t := h.set 0 _
theorem Holds.setB {W : World} {b : Nat} {x y : Value} {t : TypeId} (h : Holds W b #[x, y] t) (y' : Value) : Holds (W.setCell ⟨b, 1, none⟩ y') b #[x, y'] t := h.set 1 _
theorem Boxes.setE1 {W : World} {B N : Nat} {sl : Value} {a n : Int} (h : Boxes W B N sl a n) (n' : Int) : Boxes (W.setCell ⟨B + 1, 1, none⟩ (.int .i64 n')) B N sl a n' := by
  have gs := (Gr.refl [B + 1] W).setCell (p := ⟨B + 1, 1, none⟩) (.inl (by simp)) (.int .i64 n')
  exact ⟨h.s.gr gs (by simp), h.e.setB _, h.r.gr gs (by simp)⟩
theorem Boxes.setE0 {W : World} {B N : Nat} {sl : Value} {a n : Int} (h : Boxes W B N sl a n) (a' : Int) : Boxes (W.setCell ⟨B + 1, 0, none⟩ (.int .i64 a')) B N sl a' n := by
  have gs := (Gr.refl [B + 1] W).setCell (p := ⟨B + 1, 0, none⟩) (.inl (by simp)) (.int .i64 a')
  exact ⟨h.s.gr gs (by simp), h.e.setA _, h.r.gr gs (by simp)⟩
theorem Boxes.setE {W : World} {B N : Nat} {sl : Value} {a n : Int} (h : Boxes W B N sl a n) (a' n' : Int) : Boxes ((W.setCell ⟨B + 1, 0, none⟩ (.int .i64 a')).setCell ⟨B + 1, 1, none⟩ (.int .i64 n')) B N sl a' n' := (h.setE0 a').setE1 n'

set_option maxHeartbeats 16000000 in
set_option maxRecDepth 20000 in
theorem agive_some (N : Nat) (l l' : List (Nat × Nat)) (ao : Option Addr) (cap : Nat) (a n : Nat) (w : World) (h : SetIs w N l ao cap) (hok : okE N a n) (hu : giveL l a n = some l') :
    Calls Try.prog 20 #[.agg #[.int .i64 N, .slice ao l.length cap], .agg #[.int .i64 a, .int .i64 n]] w fun e w' => ∃ ao' cap', e = .returned (.tuple #[.agg #[.int .i64 N, .slice ao' l'.length cap'], .int .i64 0]) ∧ SetIs w' N l' ao' cap' ∧ Gr [] w w' ∧ ∀ k o', ao' = some ⟨k, o', none⟩ → w.heap.size ≤ k := by
  have HR := Lib.hid (fun W => aright_any N (.slice ao l.length cap) a n W h.hi)
  rw [decide_eq_true hok] at HR
  have HF := Lib.hid (fun (W : World) (g : Gr [] w W) => afrom_any N l ao cap a W (h.gr0 g))
  have HG := Lib.hid ((((Gr.refl [] w).alloc (Obj.cells #[.int .i64 N, .slice ao l.length cap] 25)).alloc (Obj.cells #[.int .i64 a, .int .i64 n] 35)).alloc (Obj.cells #[.int .i64 0, .slice none 0 0] 25))
  have HB := Lib.hid (Boxes.new w N (.slice ao l.length cap) a n)
  have HS := Lib.hid h
  have hle := fromI_le l (a : Int)
  have hlen := h.len
  have hhi := h.hi
  have hok2 : 1 ≤ n := by unfold okE at hok; omega
  have HGO := Lib.hid (giveL_some h.runs hok2 (by unfold okE at hok; omega) hu).1
  have hbf : ∀ (j : Nat) (e : Nat × Nat), j < fromI l (a : Int) → l[j]? = some e → ((e.1 + e.2 : Nat) : Int) ≤ (a : Int) := fun j e h1 h2 => fromI_before h1 h2
  unfold okE at hok
  clear h
  obtain ⟨i, hi⟩ : ∃ i, i = fromI l (a : Int) := ⟨_, rfl⟩
  obtain ⟨m, hm⟩ : ∃ m, m = l.length := ⟨_, rfl⟩
  obtain ⟨m', hm'⟩ : ∃ m', m' = l'.length := ⟨_, rfl⟩
  have HM' := Lib.hid hm'
  have HW := Lib.hid (fun (W : World) (g : Gr [] w W) (f t x L bx : Nat) (hf : f ≤ l.length) (ht : t ≤ l.length) (c0 : W.cell? ⟨bx, 0, none⟩ = some (.int .i64 (x : Int))) (c1 : W.cell? ⟨bx, 1, none⟩ = some (.int .i64 (L : Int))) (hRL : l' = l.take f ++ [(x, L)] ++ l.drop t) =>
    awith_one N f t m' l l' ao cap x L bx W (HS.out.gr0 g) hf ht c0 c1 hRL HM'.out HGO.out)
  rw [← hm] at HG HR HF HB HW hle hlen ⊢
  rw [← hm']
  clear hm'
  obtain ⟨hge, hl'⟩ := give_eq hi hu
  clear hu
  rw [← hi] at HF hle hbf
  have HX := Lib.hid (And.intro hl' (And.intro hge hbf))
  clear hl' hge hbf
  have HN := Lib.hid hm
  clear hm hi
  go_enter Try.func20, Try.ntmps20
  go_wp2_with fail
  refine (HR.out _).mono ?_
  rintro e' w1 ⟨rfl, g1⟩
  have b1 := HB.out.gr0 g1
  have G1 := HG.out.next0 g1
  have s0 := b1.s0
  have s1 := b1.s1
  have e0 := b1.e0
  have e1 := b1.e1
  have HK := Lib.hid (And.intro b1 G1)
  clear b1 G1 g1
  go_wp2_with fail
  refine (HF.out _ HK.out.2).mono ?_
  rintro e' w2 ⟨rfl, g2⟩
  have b2 := HK.out.1.gr0 g2
  have G2 := HK.out.2.next0 g2
  clear s0 s1 e0 e1 g2
  have s0 := kp_cell b2.s0
  have s1 := kp_cell b2.s1
  have e0 := kp_cell b2.e0
  have e1 := kp_cell b2.e1
  have HK2 := Lib.hid (And.intro b2 G2)
  clear b2 G2 HK HR HF
  go_wp2_with fail
  have hne := kp_ne w2
  have HEND := Lib.hid (show ∀ W : World, Kp w2 W → Boxes W w.heap.size N (.slice ao m cap) a n ∧ Gr [] w W from fun W hk => ⟨HK2.out.1.below hk, HK2.out.2.nextB hk⟩)
  generalize hB0 : w.heap.size = B at *
  have HB0 := Lib.hid hB0
  clear hB0
  have HFIN := Lib.hid (show ∀ (W : World) (sl : Value) (a n : Int), Boxes W B N sl a n → W.cell? ⟨B + 1 + 1, 0, none⟩ = some (.int .i64 0) ∧ W.cell? ⟨B + 1 + 1, 1, none⟩ = some (.slice none 0 0) ∧ W.frozen? ⟨B + 1 + 1, 0, none⟩ = false ∧ W.frozen? ⟨B + 1 + 1, 1, none⟩ = false ∧ B + 3 ≤ W.heap.size from fun W sl a n hb => ⟨hb.r0, hb.r1, hb.f0, hb.f1, hb.r.lt⟩)
  have HGR := Lib.hid (show ∀ (W : World) (u v : Value), Gr [] w W → Gr [] w ((W.setCell ⟨B + 1 + 1, 0, none⟩ u).setCell ⟨B + 1 + 1, 1, none⟩ v) from fun W u v g => (g.setCell (p := ⟨B + 1 + 1, 0, none⟩) (.inr (by rw [HB0.out]; simp only; omega)) _).setCell (p := ⟨B + 1 + 1, 1, none⟩) (.inr (by rw [HB0.out]; simp only; omega)) _)
  have HSG := Lib.hid (show ∀ (W : World) (u v : Value) (ao' : Option Addr) (cap' : Nat), B + 3 ≤ W.heap.size → SetIs W N l' ao' cap' → (∀ k o', ao' = some ⟨k, o', none⟩ → B + 3 ≤ k) → SetIs ((W.setCell ⟨B + 1 + 1, 0, none⟩ u).setCell ⟨B + 1 + 1, 1, none⟩ v) N l' ao' cap' from fun W u v ao' cap' hz hs hk => by
    refine ⟨hs.runs, hs.hi, ?_, hs.cap1, hs.cap2, hs.none⟩
    intro j x hj
    obtain ⟨b, o', h1, h2, h3, h4⟩ := hs.rd j x hj
    have hne := hk b o' h1
    refine hs.rd.gr (bs := [B + 1 + 1]) (((Gr.refl _ _).setCell (p := ⟨B + 1 + 1, 0, none⟩) (.inl (by simp)) _).setCell (p := ⟨B + 1 + 1, 1, none⟩) (.inl (by simp)) _) (fun k o2 e2 e3 => ?_) j x hj
    rw [h1] at e2
    injection e2 with e2
    injection e2 with e2 e4
    simp at e3
    omega)
  have HL := Lib.hid (show i ≤ l.length by rw [← HN.out]; exact hle)
  have hw2 : IntKind.i64.wrap ((a : Int) + (n : Int)) = (a : Int) + (n : Int) := IntWalk.i64_in _ (by omega)
  by_cases hlt : i < m
  · obtain ⟨e, he⟩ : ∃ e, l[i]? = some e := ⟨_, List.getElem?_eq_getElem (by have := HN.out; omega)⟩
    have hge := HX.out.2.1 e he
    have q := HS.out.mem he
    obtain ⟨b0, o, hao, hb, c1, c2⟩ := (HS.out.gr0 HK2.out.2).at he
    subst hao
    have k1 := kp_cell c1
    have k2 := kp_cell c2
    clear c1 c2 hb
    have HE := Lib.hid he
    clear he
    obtain ⟨i1, hi1⟩ : ∃ i1, i1 = i + 1 := ⟨_, rfl⟩
    have hwi1 : IntKind.i64.wrap ((i : Int) + 1) = (i1 : Int) := by rw [IntWalk.i64_in _ (by omega)]; omega
    have HI1 := Lib.hid hi1
    clear hi1
    have hd : (i : Int) < (m : Int) := by omega
    have hnl : ¬ (e.1 : Int) < (a : Int) + (n : Int) := by omega
    refine wp_region_kp (by kernel_rfl) (by kernel_rfl) ?_
    repeat (go_big_quiet_step ((rename_i x; first
      | exact kp_call x (aend_bel _ _ _ hw2))))
    with_reducible refine wpQuiet_nil ?_
    rintro _ ⟨y, rfl⟩
    by_cases heb : e.1 = a + n
    · by_cases hi00 : i = 0
      · have hi0 : ¬ 0 < i := by omega
        have hiD : decide (0 < i) = false := by rw [decide_eq_false_iff_not]; omega
        have HI00 := Lib.hid hi00
        clear hi00
        have HK3 := Lib.hid (show Boxes y.w B N (.slice (some ⟨b0, o, none⟩) m cap) _ _ ∧ Gr [] w y.w from ⟨(HEND.out _ y.h).1, (HEND.out _ y.h).2⟩)
        clear s0 s1 e0 e1 hne k1 k2
        generalize y.w = w3 at *
        clear y
        go_wp2_with fail
        have s0 := kp_cell HK3.out.1.s0
        have s1 := kp_cell HK3.out.1.s1
        have e0 := kp_cell HK3.out.1.e0
        have e1 := kp_cell HK3.out.1.e1
        have hne := kp_ne w3
        refine wp_region_kp (by kernel_rfl) (by kernel_rfl) ?_
        repeat (go_big_quiet_step (fail))
        with_reducible refine wpQuiet_nil ?_
        rintro _ ⟨y, rfl⟩
        have HK4 := Lib.hid (show Boxes y.w B N (.slice (some ⟨b0, o, none⟩) m cap) _ _ ∧ Gr [] w y.w from ⟨HK3.out.1.below y.h, HK3.out.2.nextB y.h⟩)
        clear s0 s1 e0 e1 hne 
        generalize y.w = w4 at *
        clear y
        go_wp2_with fail
        have s0 := kp_cell HK4.out.1.s0
        have s1 := kp_cell HK4.out.1.s1
        have e0 := kp_cell HK4.out.1.e0
        have e1 := kp_cell HK4.out.1.e1
        have hne := kp_ne w4
        obtain ⟨b0', o', hao', -, c1, c2⟩ := (HS.out.gr0 HK4.out.2).at HE.out
        injection hao' with hao'
        injection hao' with q1 q2
        subst q1 q2
        have k1 := kp_cell c1
        have k2 := kp_cell c2
        clear c1 c2
        have hwx : IntKind.i64.wrap ((a : Int) + (n : Int)) = (a : Int) + (n : Int) := IntWalk.i64_in _ (by omega)
        have heq2 : ((e.1 : Int) == (a : Int) + (n : Int)) = true := by simp; omega
        refine wp_region_kp (by kernel_rfl) (by kernel_rfl) ?_
        repeat (go_big_quiet_step ((rename_i x; first
          | exact kp_call x (aend_bel _ _ _ hwx))))
        with_reducible refine wpQuiet_nil ?_
        rintro _ ⟨y, rfl⟩
        have HK7 := Lib.hid (show Boxes y.w B N (.slice (some ⟨b0, o, none⟩) m cap) _ _ ∧ Gr [] w y.w from ⟨HK4.out.1.below y.h, HK4.out.2.nextB y.h⟩)
        clear s0 s1 e0 e1 hne k1 k2
        generalize y.w = w7 at *
        clear y
        go_wp2_with fail
        have s0 := kp_cell HK7.out.1.s0
        have s1 := kp_cell HK7.out.1.s1
        have e0 := kp_cell HK7.out.1.e0
        have e1 := kp_cell HK7.out.1.e1
        have hne := kp_ne w7
        obtain ⟨b0', o', hao', -, c1, c2⟩ := (HS.out.gr0 HK7.out.2).at HE.out
        injection hao' with hao'
        injection hao' with q1 q2
        subst q1 q2
        have k1 := kp_cell c1
        have k2 := kp_cell c2
        clear c1 c2
        obtain ⟨n3, hn3⟩ : ∃ n3, n3 = n + e.2 := ⟨_, rfl⟩
        have hn3' : (n : Int) + (e.2 : Int) = (n3 : Int) := by omega
        have hwn3 : IntKind.i64.wrap (n3 : Int) = (n3 : Int) := IntWalk.i64_in _ (by omega)
        have HN3 := Lib.hid hn3
        clear hn3
        refine wp_region_kp_tail 10 (by kernel_rfl) (by kernel_rfl) ?_
        simp only [List.take_succ_cons, List.take_zero, List.drop_succ_cons, List.drop_zero]
        repeat (go_big_quiet_step (fail))
        with_reducible refine wpQuiet_nil ?_
        rintro _ ⟨y, rfl⟩
        have HK8 := Lib.hid (show Boxes y.w B N (.slice (some ⟨b0, o, none⟩) m cap) _ _ ∧ Gr [] w y.w from ⟨HK7.out.1.below y.h, HK7.out.2.nextB y.h⟩)
        clear s0 s1 e0 e1 hne k1 k2
        generalize y.w = w8 at *
        clear y
        have HK9 := Lib.hid (show Boxes (w8.setCell ⟨B + 1, 1, none⟩ (.int .i64 (n3 : Int))) B N (.slice (some ⟨b0, o, none⟩) m cap) (a : Int) (n3 : Int) ∧ Gr [] w (w8.setCell ⟨B + 1, 1, none⟩ (.int .i64 (n3 : Int))) from
          ⟨HK8.out.1.setE1 _, HK8.out.2.setCell (p := ⟨B + 1, 1, none⟩) (.inr (by rw [HB0.out]; simp only; omega)) _⟩)
        have f1 := HK8.out.1.e.frozen 1
        have e1o := HK8.out.1.e1
        have s0 := HK9.out.1.s0
        have s1 := HK9.out.1.s1
        have e0 := HK9.out.1.e0
        have e1 := HK9.out.1.e1
        have HRL := Lib.hid (HX.out.1 i i1 a n3 (mergeA_no HL.out (.inl HI00.out)) (by rw [mergeB_yes HE.out (by omega), HI1.out]; congr 1; have := HN3.out; omega))
        have HNW := Lib.hid (Holds.new (w8.setCell ⟨B + 1, 1, none⟩ (.int .i64 (n3 : Int))) #[.int .i64 (a : Int), .int .i64 (n3 : Int)] 35)
        rw [World.size_setCell] at HNW
        have HG9 := Lib.hid ((Gr.refl [] (w8.setCell ⟨B + 1, 1, none⟩ (.int .i64 (n3 : Int)))).alloc (Obj.cells #[.int .i64 (a : Int), .int .i64 (n3 : Int)] 35))
        go_wp2_with fail
        refine (HW.out _ (HK9.out.2.trans HG9.out) i i1 a n3 _ (by omega) (by have := HI1.out; omega) (HNW.out.cell 0) (HNW.out.cell 1) HRL.out).mono ?_
        rintro e' w9 ⟨ao', cap', rfl, hs, g, hk⟩
        obtain ⟨r0, r1, f0, f1, hz9⟩ := HFIN.out w9 _ _ _ ((HK9.out.1.gr0 HG9.out).gr0 g)
        have HZ9 := Lib.hid hz9
        have H6 := Lib.hid (And.intro hs (And.intro ((HK9.out.2.trans HG9.out).trans g) (fun k o' e => Nat.le_trans (show B + 3 ≤ _ from Nat.le_trans HK9.out.1.r.lt HG9.out.size) (hk k o' e))))
        clear hs g hk hz9
        go_wp2_with fail
        refine bodyPost_ret (v := .tuple #[.agg #[.int .i64 N, .slice ao' m' cap'], .int .i64 0]) (by simp [results, Try.results20, go_sem, *]) rfl ⟨ao', cap', rfl, HSG.out _ _ _ _ _ HZ9.out H6.out.1 H6.out.2.2, HGR.out _ _ _ H6.out.2.1, fun k o' e => by have := H6.out.2.2 k o' e; rw [HB0.out]; omega⟩
      · obtain ⟨j, hj⟩ : ∃ j, j = i - 1 := ⟨_, rfl⟩
        obtain ⟨p, hp⟩ : ∃ p, l[j]? = some p := ⟨_, List.getElem?_eq_getElem (by have := HN.out; omega)⟩
        have hpb := HX.out.2.2 j p (by omega) hp
        have hpm := HS.out.mem hp
        have hj' : IntKind.i64.wrap ((i : Int) - 1) = (j : Int) := by rw [IntWalk.i64_in _ (by omega)]; omega
        have hip : 0 < i := by omega
        have hjm : j < m := by omega
        have HP := Lib.hid (And.intro hp hj)
        clear hp hj
        by_cases hpe : p.1 + p.2 = a
        · have HPE := Lib.hid hpe
          have HK3 := Lib.hid (show Boxes y.w B N (.slice (some ⟨b0, o, none⟩) m cap) _ _ ∧ Gr [] w y.w from ⟨(HEND.out _ y.h).1, (HEND.out _ y.h).2⟩)
          clear s0 s1 e0 e1 hne k1 k2
          generalize y.w = w3 at *
          clear y
          go_wp2_with fail
          have s0 := kp_cell HK3.out.1.s0
          have s1 := kp_cell HK3.out.1.s1
          have e0 := kp_cell HK3.out.1.e0
          have e1 := kp_cell HK3.out.1.e1
          have hne := kp_ne w3
          obtain ⟨b0', o', hao', -, c1, c2⟩ := (HS.out.gr0 HK3.out.2).at HP.out.1
          injection hao' with hao'
          injection hao' with q1 q2
          subst q1 q2
          have p1 := kp_cell c1
          have p2 := kp_cell c2
          clear c1 c2
          have hi0 : (0 : Int) < (i : Int) := by omega
          have hiD : decide (0 < i) = true := by rw [decide_eq_true_iff]; exact hip
          have hwp : IntKind.i64.wrap ((p.1 : Int) + (p.2 : Int)) = (p.1 : Int) + (p.2 : Int) := IntWalk.i64_in _ (by omega)
          have heq : ((p.1 : Int) + (p.2 : Int) == (a : Int)) = true := by simp; omega
          refine wp_region_kp (by kernel_rfl) (by kernel_rfl) ?_
          repeat (go_big_quiet_step ((rename_i x; first
            | exact kp_call x (aend_bel _ _ _ hwp))))
          with_reducible refine wpQuiet_nil ?_
          rintro _ ⟨y, rfl⟩
          have HK4 := Lib.hid (show Boxes y.w B N (.slice (some ⟨b0, o, none⟩) m cap) _ _ ∧ Gr [] w y.w from ⟨HK3.out.1.below y.h, HK3.out.2.nextB y.h⟩)
          clear s0 s1 e0 e1 hne p1 p2
          generalize y.w = w4 at *
          clear y
          go_wp2_with fail
          have s0 := kp_cell HK4.out.1.s0
          have s1 := kp_cell HK4.out.1.s1
          have e0 := kp_cell HK4.out.1.e0
          have e1 := kp_cell HK4.out.1.e1
          have hne := kp_ne w4
          obtain ⟨b0', o', hao', -, c1, c2⟩ := (HS.out.gr0 HK4.out.2).at HP.out.1
          injection hao' with hao'
          injection hao' with q1 q2
          subst q1 q2
          have p1 := kp_cell c1
          have p2 := kp_cell c2
          clear c1 c2
          obtain ⟨n2, hn2⟩ : ∃ n2, n2 = p.2 + n := ⟨_, rfl⟩
          have hn2' : (p.2 : Int) + (n : Int) = (n2 : Int) := by omega
          have hwn2 : IntKind.i64.wrap (n2 : Int) = (n2 : Int) := IntWalk.i64_in _ (by omega)
          have HN2 := Lib.hid hn2
          clear hn2
          refine wp_region_kp_tail 16 (by kernel_rfl) (by kernel_rfl) ?_
          simp only [List.take_succ_cons, List.take_zero, List.drop_succ_cons, List.drop_zero]
          repeat (go_big_quiet_step (fail))
          with_reducible refine wpQuiet_nil ?_
          rintro _ ⟨y, rfl⟩
          have HK5 := Lib.hid (show Boxes y.w B N (.slice (some ⟨b0, o, none⟩) m cap) _ _ ∧ Gr [] w y.w from ⟨HK4.out.1.below y.h, HK4.out.2.nextB y.h⟩)
          clear s0 s1 e0 e1 hne p1 p2
          generalize y.w = w5 at *
          clear y
          have s0 := HK5.out.1.s0
          have e0 := HK5.out.1.e0
          have e1 := HK5.out.1.e1
          have f0 := HK5.out.1.e.frozen 0
          have f1 := HK5.out.1.e.frozen 1
          have HK6 := Lib.hid (show Boxes ((w5.setCell ⟨B + 1, 0, none⟩ (.int .i64 (p.1 : Int))).setCell ⟨B + 1, 1, none⟩ (.int .i64 (n2 : Int))) B N (.slice (some ⟨b0, o, none⟩) m cap) (p.1 : Int) (n2 : Int) ∧ Gr [] w ((w5.setCell ⟨B + 1, 0, none⟩ (.int .i64 (p.1 : Int))).setCell ⟨B + 1, 1, none⟩ (.int .i64 (n2 : Int))) from
            ⟨HK5.out.1.setE _ _, (HK5.out.2.setCell (p := ⟨B + 1, 0, none⟩) (.inr (by rw [HB0.out]; simp only; omega)) _).setCell (p := ⟨B + 1, 1, none⟩) (.inr (by rw [HB0.out]; simp only; omega)) _⟩)
          go_wp2_with fail
          clear s0 e0 e1 f0 f1
          generalize (w5.setCell ⟨B + 1, 0, none⟩ (.int .i64 (p.1 : Int))).setCell ⟨B + 1, 1, none⟩ (.int .i64 (n2 : Int)) = w6 at *
          have hxL : p.1 + n2 = a + n := by have := HN2.out; omega
          have HXL := Lib.hid hxL
          have s0 := kp_cell HK6.out.1.s0
          have s1 := kp_cell HK6.out.1.s1
          have e0 := kp_cell HK6.out.1.e0
          have e1 := kp_cell HK6.out.1.e1
          have hne := kp_ne w6
          obtain ⟨b0', o', hao', -, c1, c2⟩ := (HS.out.gr0 HK6.out.2).at HE.out
          injection hao' with hao'
          injection hao' with q1 q2
          subst q1 q2
          have k1 := kp_cell c1
          have k2 := kp_cell c2
          clear c1 c2
          have hwx : IntKind.i64.wrap ((p.1 : Int) + (n2 : Int)) = (p.1 : Int) + (n2 : Int) := IntWalk.i64_in _ (by omega)
          have heq2 : ((e.1 : Int) == (p.1 : Int) + (n2 : Int)) = true := by simp; omega
          refine wp_region_kp (by kernel_rfl) (by kernel_rfl) ?_
          repeat (go_big_quiet_step ((rename_i x; first
            | exact kp_call x (aend_bel _ _ _ hwx))))
          with_reducible refine wpQuiet_nil ?_
          rintro _ ⟨y, rfl⟩
          have HK7 := Lib.hid (show Boxes y.w B N (.slice (some ⟨b0, o, none⟩) m cap) _ _ ∧ Gr [] w y.w from ⟨HK6.out.1.below y.h, HK6.out.2.nextB y.h⟩)
          clear s0 s1 e0 e1 hne k1 k2
          generalize y.w = w7 at *
          clear y
          go_wp2_with fail
          have s0 := kp_cell HK7.out.1.s0
          have s1 := kp_cell HK7.out.1.s1
          have e0 := kp_cell HK7.out.1.e0
          have e1 := kp_cell HK7.out.1.e1
          have hne := kp_ne w7
          obtain ⟨b0', o', hao', -, c1, c2⟩ := (HS.out.gr0 HK7.out.2).at HE.out
          injection hao' with hao'
          injection hao' with q1 q2
          subst q1 q2
          have k1 := kp_cell c1
          have k2 := kp_cell c2
          clear c1 c2
          obtain ⟨n3, hn3⟩ : ∃ n3, n3 = n2 + e.2 := ⟨_, rfl⟩
          have hn3' : (n2 : Int) + (e.2 : Int) = (n3 : Int) := by omega
          have hwn3 : IntKind.i64.wrap (n3 : Int) = (n3 : Int) := IntWalk.i64_in _ (by omega)
          have HN3 := Lib.hid hn3
          clear hn3
          refine wp_region_kp_tail 10 (by kernel_rfl) (by kernel_rfl) ?_
          simp only [List.take_succ_cons, List.take_zero, List.drop_succ_cons, List.drop_zero]
          repeat (go_big_quiet_step (fail))
          with_reducible refine wpQuiet_nil ?_
          rintro _ ⟨y, rfl⟩
          have HK8 := Lib.hid (show Boxes y.w B N (.slice (some ⟨b0, o, none⟩) m cap) _ _ ∧ Gr [] w y.w from ⟨HK7.out.1.below y.h, HK7.out.2.nextB y.h⟩)
          clear s0 s1 e0 e1 hne k1 k2
          generalize y.w = w8 at *
          clear y
          have HK9 := Lib.hid (show Boxes (w8.setCell ⟨B + 1, 1, none⟩ (.int .i64 (n3 : Int))) B N (.slice (some ⟨b0, o, none⟩) m cap) (p.1 : Int) (n3 : Int) ∧ Gr [] w (w8.setCell ⟨B + 1, 1, none⟩ (.int .i64 (n3 : Int))) from
            ⟨HK8.out.1.setE1 _, HK8.out.2.setCell (p := ⟨B + 1, 1, none⟩) (.inr (by rw [HB0.out]; simp only; omega)) _⟩)
          have f1 := HK8.out.1.e.frozen 1
          have e1o := HK8.out.1.e1
          have s0 := HK9.out.1.s0
          have s1 := HK9.out.1.s1
          have e0 := HK9.out.1.e0
          have e1 := HK9.out.1.e1
          have HRL := Lib.hid (HX.out.1 j i1 p.1 n3 ((by have := mergeA_yes HL.out hip (by rw [← HP.out.2]; exact HP.out.1) HPE.out; rw [← HP.out.2] at this; exact this)) (by rw [mergeB_yes HE.out (by omega), HI1.out]; congr 1; have := HN3.out; have := HXL.out; omega))
          have HNW := Lib.hid (Holds.new (w8.setCell ⟨B + 1, 1, none⟩ (.int .i64 (n3 : Int))) #[.int .i64 (p.1 : Int), .int .i64 (n3 : Int)] 35)
          rw [World.size_setCell] at HNW
          have HG9 := Lib.hid ((Gr.refl [] (w8.setCell ⟨B + 1, 1, none⟩ (.int .i64 (n3 : Int)))).alloc (Obj.cells #[.int .i64 (p.1 : Int), .int .i64 (n3 : Int)] 35))
          go_wp2_with fail
          refine (HW.out _ (HK9.out.2.trans HG9.out) j i1 p.1 n3 _ (by omega) (by have := HI1.out; omega) (HNW.out.cell 0) (HNW.out.cell 1) HRL.out).mono ?_
          rintro e' w9 ⟨ao', cap', rfl, hs, g, hk⟩
          obtain ⟨r0, r1, f0, f1, hz9⟩ := HFIN.out w9 _ _ _ ((HK9.out.1.gr0 HG9.out).gr0 g)
          have HZ9 := Lib.hid hz9
          have H6 := Lib.hid (And.intro hs (And.intro ((HK9.out.2.trans HG9.out).trans g) (fun k o' e => Nat.le_trans (show B + 3 ≤ _ from Nat.le_trans HK9.out.1.r.lt HG9.out.size) (hk k o' e))))
          clear hs g hk hz9
          go_wp2_with fail
          refine bodyPost_ret (v := .tuple #[.agg #[.int .i64 N, .slice ao' m' cap'], .int .i64 0]) (by simp [results, Try.results20, go_sem, *]) rfl ⟨ao', cap', rfl, HSG.out _ _ _ _ _ HZ9.out H6.out.1 H6.out.2.2, HGR.out _ _ _ H6.out.2.1, fun k o' e => by have := H6.out.2.2 k o' e; rw [HB0.out]; omega⟩
        · have HNE1 := Lib.hid (show p.1 + p.2 ≠ a from hpe)
          have HK3 := Lib.hid (show Boxes y.w B N (.slice (some ⟨b0, o, none⟩) m cap) _ _ ∧ Gr [] w y.w from ⟨(HEND.out _ y.h).1, (HEND.out _ y.h).2⟩)
          clear s0 s1 e0 e1 hne k1 k2
          generalize y.w = w3 at *
          clear y
          go_wp2_with fail
          have s0 := kp_cell HK3.out.1.s0
          have s1 := kp_cell HK3.out.1.s1
          have e0 := kp_cell HK3.out.1.e0
          have e1 := kp_cell HK3.out.1.e1
          have hne := kp_ne w3
          obtain ⟨b0', o', hao', -, c1, c2⟩ := (HS.out.gr0 HK3.out.2).at HP.out.1
          injection hao' with hao'
          injection hao' with q1 q2
          subst q1 q2
          have p1 := kp_cell c1
          have p2 := kp_cell c2
          clear c1 c2
          have hi0 : (0 : Int) < (i : Int) := by omega
          have hiD : decide (0 < i) = true := by rw [decide_eq_true_iff]; exact hip
          have hwp : IntKind.i64.wrap ((p.1 : Int) + (p.2 : Int)) = (p.1 : Int) + (p.2 : Int) := IntWalk.i64_in _ (by omega)
          have heq : ((p.1 : Int) + (p.2 : Int) == (a : Int)) = false := by simp; omega
          refine wp_region_kp (by kernel_rfl) (by kernel_rfl) ?_
          repeat (go_big_quiet_step ((rename_i x; first
            | exact kp_call x (aend_bel _ _ _ hwp))))
          with_reducible refine wpQuiet_nil ?_
          rintro _ ⟨y, rfl⟩
          have HK4 := Lib.hid (show Boxes y.w B N (.slice (some ⟨b0, o, none⟩) m cap) _ _ ∧ Gr [] w y.w from ⟨HK3.out.1.below y.h, HK3.out.2.nextB y.h⟩)
          clear s0 s1 e0 e1 hne p1 p2
          generalize y.w = w4 at *
          clear y
          go_wp2_with fail
          have s0 := kp_cell HK4.out.1.s0
          have s1 := kp_cell HK4.out.1.s1
          have e0 := kp_cell HK4.out.1.e0
          have e1 := kp_cell HK4.out.1.e1
          have hne := kp_ne w4
          obtain ⟨b0', o', hao', -, c1, c2⟩ := (HS.out.gr0 HK4.out.2).at HE.out
          injection hao' with hao'
          injection hao' with q1 q2
          subst q1 q2
          have k1 := kp_cell c1
          have k2 := kp_cell c2
          clear c1 c2
          have hwx : IntKind.i64.wrap ((a : Int) + (n : Int)) = (a : Int) + (n : Int) := IntWalk.i64_in _ (by omega)
          have heq2 : ((e.1 : Int) == (a : Int) + (n : Int)) = true := by simp; omega
          refine wp_region_kp (by kernel_rfl) (by kernel_rfl) ?_
          repeat (go_big_quiet_step ((rename_i x; first
            | exact kp_call x (aend_bel _ _ _ hwx))))
          with_reducible refine wpQuiet_nil ?_
          rintro _ ⟨y, rfl⟩
          have HK7 := Lib.hid (show Boxes y.w B N (.slice (some ⟨b0, o, none⟩) m cap) _ _ ∧ Gr [] w y.w from ⟨HK4.out.1.below y.h, HK4.out.2.nextB y.h⟩)
          clear s0 s1 e0 e1 hne k1 k2
          generalize y.w = w7 at *
          clear y
          go_wp2_with fail
          have s0 := kp_cell HK7.out.1.s0
          have s1 := kp_cell HK7.out.1.s1
          have e0 := kp_cell HK7.out.1.e0
          have e1 := kp_cell HK7.out.1.e1
          have hne := kp_ne w7
          obtain ⟨b0', o', hao', -, c1, c2⟩ := (HS.out.gr0 HK7.out.2).at HE.out
          injection hao' with hao'
          injection hao' with q1 q2
          subst q1 q2
          have k1 := kp_cell c1
          have k2 := kp_cell c2
          clear c1 c2
          obtain ⟨n3, hn3⟩ : ∃ n3, n3 = n + e.2 := ⟨_, rfl⟩
          have hn3' : (n : Int) + (e.2 : Int) = (n3 : Int) := by omega
          have hwn3 : IntKind.i64.wrap (n3 : Int) = (n3 : Int) := IntWalk.i64_in _ (by omega)
          have HN3 := Lib.hid hn3
          clear hn3
          refine wp_region_kp_tail 10 (by kernel_rfl) (by kernel_rfl) ?_
          simp only [List.take_succ_cons, List.take_zero, List.drop_succ_cons, List.drop_zero]
          repeat (go_big_quiet_step (fail))
          with_reducible refine wpQuiet_nil ?_
          rintro _ ⟨y, rfl⟩
          have HK8 := Lib.hid (show Boxes y.w B N (.slice (some ⟨b0, o, none⟩) m cap) _ _ ∧ Gr [] w y.w from ⟨HK7.out.1.below y.h, HK7.out.2.nextB y.h⟩)
          clear s0 s1 e0 e1 hne k1 k2
          generalize y.w = w8 at *
          clear y
          have HK9 := Lib.hid (show Boxes (w8.setCell ⟨B + 1, 1, none⟩ (.int .i64 (n3 : Int))) B N (.slice (some ⟨b0, o, none⟩) m cap) (a : Int) (n3 : Int) ∧ Gr [] w (w8.setCell ⟨B + 1, 1, none⟩ (.int .i64 (n3 : Int))) from
            ⟨HK8.out.1.setE1 _, HK8.out.2.setCell (p := ⟨B + 1, 1, none⟩) (.inr (by rw [HB0.out]; simp only; omega)) _⟩)
          have f1 := HK8.out.1.e.frozen 1
          have e1o := HK8.out.1.e1
          have s0 := HK9.out.1.s0
          have s1 := HK9.out.1.s1
          have e0 := HK9.out.1.e0
          have e1 := HK9.out.1.e1
          have HRL := Lib.hid (HX.out.1 i i1 a n3 (mergeA_no HL.out (.inr ⟨p, by rw [← HP.out.2]; exact HP.out.1, HNE1.out⟩)) (by rw [mergeB_yes HE.out (by omega), HI1.out]; congr 1; have := HN3.out; omega))
          have HNW := Lib.hid (Holds.new (w8.setCell ⟨B + 1, 1, none⟩ (.int .i64 (n3 : Int))) #[.int .i64 (a : Int), .int .i64 (n3 : Int)] 35)
          rw [World.size_setCell] at HNW
          have HG9 := Lib.hid ((Gr.refl [] (w8.setCell ⟨B + 1, 1, none⟩ (.int .i64 (n3 : Int)))).alloc (Obj.cells #[.int .i64 (a : Int), .int .i64 (n3 : Int)] 35))
          go_wp2_with fail
          refine (HW.out _ (HK9.out.2.trans HG9.out) i i1 a n3 _ (by omega) (by have := HI1.out; omega) (HNW.out.cell 0) (HNW.out.cell 1) HRL.out).mono ?_
          rintro e' w9 ⟨ao', cap', rfl, hs, g, hk⟩
          obtain ⟨r0, r1, f0, f1, hz9⟩ := HFIN.out w9 _ _ _ ((HK9.out.1.gr0 HG9.out).gr0 g)
          have HZ9 := Lib.hid hz9
          have H6 := Lib.hid (And.intro hs (And.intro ((HK9.out.2.trans HG9.out).trans g) (fun k o' e => Nat.le_trans (show B + 3 ≤ _ from Nat.le_trans HK9.out.1.r.lt HG9.out.size) (hk k o' e))))
          clear hs g hk hz9
          go_wp2_with fail
          refine bodyPost_ret (v := .tuple #[.agg #[.int .i64 N, .slice ao' m' cap'], .int .i64 0]) (by simp [results, Try.results20, go_sem, *]) rfl ⟨ao', cap', rfl, HSG.out _ _ _ _ _ HZ9.out H6.out.1 H6.out.2.2, HGR.out _ _ _ H6.out.2.1, fun k o' e => by have := H6.out.2.2 k o' e; rw [HB0.out]; omega⟩
    · by_cases hi00 : i = 0
      · have hi0 : ¬ 0 < i := by omega
        have hiD : decide (0 < i) = false := by rw [decide_eq_false_iff_not]; omega
        have HI00 := Lib.hid hi00
        clear hi00
        have HK3 := Lib.hid (show Boxes y.w B N (.slice (some ⟨b0, o, none⟩) m cap) _ _ ∧ Gr [] w y.w from ⟨(HEND.out _ y.h).1, (HEND.out _ y.h).2⟩)
        clear s0 s1 e0 e1 hne k1 k2
        generalize y.w = w3 at *
        clear y
        go_wp2_with fail
        have s0 := kp_cell HK3.out.1.s0
        have s1 := kp_cell HK3.out.1.s1
        have e0 := kp_cell HK3.out.1.e0
        have e1 := kp_cell HK3.out.1.e1
        have hne := kp_ne w3
        refine wp_region_kp (by kernel_rfl) (by kernel_rfl) ?_
        repeat (go_big_quiet_step (fail))
        with_reducible refine wpQuiet_nil ?_
        rintro _ ⟨y, rfl⟩
        have HK4 := Lib.hid (show Boxes y.w B N (.slice (some ⟨b0, o, none⟩) m cap) _ _ ∧ Gr [] w y.w from ⟨HK3.out.1.below y.h, HK3.out.2.nextB y.h⟩)
        clear s0 s1 e0 e1 hne 
        generalize y.w = w4 at *
        clear y
        go_wp2_with fail
        have s0 := kp_cell HK4.out.1.s0
        have s1 := kp_cell HK4.out.1.s1
        have e0 := kp_cell HK4.out.1.e0
        have e1 := kp_cell HK4.out.1.e1
        have hne := kp_ne w4
        obtain ⟨b0', o', hao', -, c1, c2⟩ := (HS.out.gr0 HK4.out.2).at HE.out
        injection hao' with hao'
        injection hao' with q1 q2
        subst q1 q2
        have k1 := kp_cell c1
        have k2 := kp_cell c2
        clear c1 c2
        have hwx : IntKind.i64.wrap ((a : Int) + (n : Int)) = (a : Int) + (n : Int) := IntWalk.i64_in _ (by omega)
        have heq2 : ((e.1 : Int) == (a : Int) + (n : Int)) = false := by simp; omega
        refine wp_region_kp (by kernel_rfl) (by kernel_rfl) ?_
        repeat (go_big_quiet_step ((rename_i x; first
          | exact kp_call x (aend_bel _ _ _ hwx))))
        with_reducible refine wpQuiet_nil ?_
        rintro _ ⟨y, rfl⟩
        have HK7 := Lib.hid (show Boxes y.w B N (.slice (some ⟨b0, o, none⟩) m cap) _ _ ∧ Gr [] w y.w from ⟨HK4.out.1.below y.h, HK4.out.2.nextB y.h⟩)
        clear s0 s1 e0 e1 hne k1 k2
        generalize y.w = w7 at *
        clear y
        have s0 := HK7.out.1.s0
        have s1 := HK7.out.1.s1
        have e0 := HK7.out.1.e0
        have e1 := HK7.out.1.e1
        have HRL := Lib.hid (HX.out.1 i i a n (mergeA_no HL.out (.inl HI00.out)) (by rw [mergeB_no HE.out (by omega)]))
        have HNW := Lib.hid (Holds.new w7 #[.int .i64 (a : Int), .int .i64 (n : Int)] 35)
        have HG9 := Lib.hid ((Gr.refl [] w7).alloc (Obj.cells #[.int .i64 (a : Int), .int .i64 (n : Int)] 35))
        go_wp2_with fail
        refine (HW.out _ (HK7.out.2.trans HG9.out) i i a n _ (by omega) (by omega) (HNW.out.cell 0) (HNW.out.cell 1) HRL.out).mono ?_
        rintro e' w9 ⟨ao', cap', rfl, hs, g, hk⟩
        obtain ⟨r0, r1, f0, f1, hz9⟩ := HFIN.out w9 _ _ _ ((HK7.out.1.gr0 HG9.out).gr0 g)
        have HZ9 := Lib.hid hz9
        have H6 := Lib.hid (And.intro hs (And.intro ((HK7.out.2.trans HG9.out).trans g) (fun k o' e => Nat.le_trans (show B + 3 ≤ _ from Nat.le_trans HK7.out.1.r.lt HG9.out.size) (hk k o' e))))
        clear hs g hk hz9
        go_wp2_with fail
        refine bodyPost_ret (v := .tuple #[.agg #[.int .i64 N, .slice ao' m' cap'], .int .i64 0]) (by simp [results, Try.results20, go_sem, *]) rfl ⟨ao', cap', rfl, HSG.out _ _ _ _ _ HZ9.out H6.out.1 H6.out.2.2, HGR.out _ _ _ H6.out.2.1, fun k o' e => by have := H6.out.2.2 k o' e; rw [HB0.out]; omega⟩
      · obtain ⟨j, hj⟩ : ∃ j, j = i - 1 := ⟨_, rfl⟩
        obtain ⟨p, hp⟩ : ∃ p, l[j]? = some p := ⟨_, List.getElem?_eq_getElem (by have := HN.out; omega)⟩
        have hpb := HX.out.2.2 j p (by omega) hp
        have hpm := HS.out.mem hp
        have hj' : IntKind.i64.wrap ((i : Int) - 1) = (j : Int) := by rw [IntWalk.i64_in _ (by omega)]; omega
        have hip : 0 < i := by omega
        have hjm : j < m := by omega
        have HP := Lib.hid (And.intro hp hj)
        clear hp hj
        by_cases hpe : p.1 + p.2 = a
        · have HPE := Lib.hid hpe
          have HK3 := Lib.hid (show Boxes y.w B N (.slice (some ⟨b0, o, none⟩) m cap) _ _ ∧ Gr [] w y.w from ⟨(HEND.out _ y.h).1, (HEND.out _ y.h).2⟩)
          clear s0 s1 e0 e1 hne k1 k2
          generalize y.w = w3 at *
          clear y
          go_wp2_with fail
          have s0 := kp_cell HK3.out.1.s0
          have s1 := kp_cell HK3.out.1.s1
          have e0 := kp_cell HK3.out.1.e0
          have e1 := kp_cell HK3.out.1.e1
          have hne := kp_ne w3
          obtain ⟨b0', o', hao', -, c1, c2⟩ := (HS.out.gr0 HK3.out.2).at HP.out.1
          injection hao' with hao'
          injection hao' with q1 q2
          subst q1 q2
          have p1 := kp_cell c1
          have p2 := kp_cell c2
          clear c1 c2
          have hi0 : (0 : Int) < (i : Int) := by omega
          have hiD : decide (0 < i) = true := by rw [decide_eq_true_iff]; exact hip
          have hwp : IntKind.i64.wrap ((p.1 : Int) + (p.2 : Int)) = (p.1 : Int) + (p.2 : Int) := IntWalk.i64_in _ (by omega)
          have heq : ((p.1 : Int) + (p.2 : Int) == (a : Int)) = true := by simp; omega
          refine wp_region_kp (by kernel_rfl) (by kernel_rfl) ?_
          repeat (go_big_quiet_step ((rename_i x; first
            | exact kp_call x (aend_bel _ _ _ hwp))))
          with_reducible refine wpQuiet_nil ?_
          rintro _ ⟨y, rfl⟩
          have HK4 := Lib.hid (show Boxes y.w B N (.slice (some ⟨b0, o, none⟩) m cap) _ _ ∧ Gr [] w y.w from ⟨HK3.out.1.below y.h, HK3.out.2.nextB y.h⟩)
          clear s0 s1 e0 e1 hne p1 p2
          generalize y.w = w4 at *
          clear y
          go_wp2_with fail
          have s0 := kp_cell HK4.out.1.s0
          have s1 := kp_cell HK4.out.1.s1
          have e0 := kp_cell HK4.out.1.e0
          have e1 := kp_cell HK4.out.1.e1
          have hne := kp_ne w4
          obtain ⟨b0', o', hao', -, c1, c2⟩ := (HS.out.gr0 HK4.out.2).at HP.out.1
          injection hao' with hao'
          injection hao' with q1 q2
          subst q1 q2
          have p1 := kp_cell c1
          have p2 := kp_cell c2
          clear c1 c2
          obtain ⟨n2, hn2⟩ : ∃ n2, n2 = p.2 + n := ⟨_, rfl⟩
          have hn2' : (p.2 : Int) + (n : Int) = (n2 : Int) := by omega
          have hwn2 : IntKind.i64.wrap (n2 : Int) = (n2 : Int) := IntWalk.i64_in _ (by omega)
          have HN2 := Lib.hid hn2
          clear hn2
          refine wp_region_kp_tail 16 (by kernel_rfl) (by kernel_rfl) ?_
          simp only [List.take_succ_cons, List.take_zero, List.drop_succ_cons, List.drop_zero]
          repeat (go_big_quiet_step (fail))
          with_reducible refine wpQuiet_nil ?_
          rintro _ ⟨y, rfl⟩
          have HK5 := Lib.hid (show Boxes y.w B N (.slice (some ⟨b0, o, none⟩) m cap) _ _ ∧ Gr [] w y.w from ⟨HK4.out.1.below y.h, HK4.out.2.nextB y.h⟩)
          clear s0 s1 e0 e1 hne p1 p2
          generalize y.w = w5 at *
          clear y
          have s0 := HK5.out.1.s0
          have e0 := HK5.out.1.e0
          have e1 := HK5.out.1.e1
          have f0 := HK5.out.1.e.frozen 0
          have f1 := HK5.out.1.e.frozen 1
          have HK6 := Lib.hid (show Boxes ((w5.setCell ⟨B + 1, 0, none⟩ (.int .i64 (p.1 : Int))).setCell ⟨B + 1, 1, none⟩ (.int .i64 (n2 : Int))) B N (.slice (some ⟨b0, o, none⟩) m cap) (p.1 : Int) (n2 : Int) ∧ Gr [] w ((w5.setCell ⟨B + 1, 0, none⟩ (.int .i64 (p.1 : Int))).setCell ⟨B + 1, 1, none⟩ (.int .i64 (n2 : Int))) from
            ⟨HK5.out.1.setE _ _, (HK5.out.2.setCell (p := ⟨B + 1, 0, none⟩) (.inr (by rw [HB0.out]; simp only; omega)) _).setCell (p := ⟨B + 1, 1, none⟩) (.inr (by rw [HB0.out]; simp only; omega)) _⟩)
          go_wp2_with fail
          clear s0 e0 e1 f0 f1
          generalize (w5.setCell ⟨B + 1, 0, none⟩ (.int .i64 (p.1 : Int))).setCell ⟨B + 1, 1, none⟩ (.int .i64 (n2 : Int)) = w6 at *
          have hxL : p.1 + n2 = a + n := by have := HN2.out; omega
          have HXL := Lib.hid hxL
          have s0 := kp_cell HK6.out.1.s0
          have s1 := kp_cell HK6.out.1.s1
          have e0 := kp_cell HK6.out.1.e0
          have e1 := kp_cell HK6.out.1.e1
          have hne := kp_ne w6
          obtain ⟨b0', o', hao', -, c1, c2⟩ := (HS.out.gr0 HK6.out.2).at HE.out
          injection hao' with hao'
          injection hao' with q1 q2
          subst q1 q2
          have k1 := kp_cell c1
          have k2 := kp_cell c2
          clear c1 c2
          have hwx : IntKind.i64.wrap ((p.1 : Int) + (n2 : Int)) = (p.1 : Int) + (n2 : Int) := IntWalk.i64_in _ (by omega)
          have heq2 : ((e.1 : Int) == (p.1 : Int) + (n2 : Int)) = false := by simp; omega
          refine wp_region_kp (by kernel_rfl) (by kernel_rfl) ?_
          repeat (go_big_quiet_step ((rename_i x; first
            | exact kp_call x (aend_bel _ _ _ hwx))))
          with_reducible refine wpQuiet_nil ?_
          rintro _ ⟨y, rfl⟩
          have HK7 := Lib.hid (show Boxes y.w B N (.slice (some ⟨b0, o, none⟩) m cap) _ _ ∧ Gr [] w y.w from ⟨HK6.out.1.below y.h, HK6.out.2.nextB y.h⟩)
          clear s0 s1 e0 e1 hne k1 k2
          generalize y.w = w7 at *
          clear y
          have s0 := HK7.out.1.s0
          have s1 := HK7.out.1.s1
          have e0 := HK7.out.1.e0
          have e1 := HK7.out.1.e1
          have HRL := Lib.hid (HX.out.1 j i p.1 n2 ((by have := mergeA_yes HL.out hip (by rw [← HP.out.2]; exact HP.out.1) HPE.out; rw [← HP.out.2] at this; exact this)) (by rw [mergeB_no HE.out (by omega), HXL.out]))
          have HNW := Lib.hid (Holds.new w7 #[.int .i64 (p.1 : Int), .int .i64 (n2 : Int)] 35)
          have HG9 := Lib.hid ((Gr.refl [] w7).alloc (Obj.cells #[.int .i64 (p.1 : Int), .int .i64 (n2 : Int)] 35))
          go_wp2_with fail
          refine (HW.out _ (HK7.out.2.trans HG9.out) j i p.1 n2 _ (by omega) (by omega) (HNW.out.cell 0) (HNW.out.cell 1) HRL.out).mono ?_
          rintro e' w9 ⟨ao', cap', rfl, hs, g, hk⟩
          obtain ⟨r0, r1, f0, f1, hz9⟩ := HFIN.out w9 _ _ _ ((HK7.out.1.gr0 HG9.out).gr0 g)
          have HZ9 := Lib.hid hz9
          have H6 := Lib.hid (And.intro hs (And.intro ((HK7.out.2.trans HG9.out).trans g) (fun k o' e => Nat.le_trans (show B + 3 ≤ _ from Nat.le_trans HK7.out.1.r.lt HG9.out.size) (hk k o' e))))
          clear hs g hk hz9
          go_wp2_with fail
          refine bodyPost_ret (v := .tuple #[.agg #[.int .i64 N, .slice ao' m' cap'], .int .i64 0]) (by simp [results, Try.results20, go_sem, *]) rfl ⟨ao', cap', rfl, HSG.out _ _ _ _ _ HZ9.out H6.out.1 H6.out.2.2, HGR.out _ _ _ H6.out.2.1, fun k o' e => by have := H6.out.2.2 k o' e; rw [HB0.out]; omega⟩
        · have HNE1 := Lib.hid (show p.1 + p.2 ≠ a from hpe)
          have HK3 := Lib.hid (show Boxes y.w B N (.slice (some ⟨b0, o, none⟩) m cap) _ _ ∧ Gr [] w y.w from ⟨(HEND.out _ y.h).1, (HEND.out _ y.h).2⟩)
          clear s0 s1 e0 e1 hne k1 k2
          generalize y.w = w3 at *
          clear y
          go_wp2_with fail
          have s0 := kp_cell HK3.out.1.s0
          have s1 := kp_cell HK3.out.1.s1
          have e0 := kp_cell HK3.out.1.e0
          have e1 := kp_cell HK3.out.1.e1
          have hne := kp_ne w3
          obtain ⟨b0', o', hao', -, c1, c2⟩ := (HS.out.gr0 HK3.out.2).at HP.out.1
          injection hao' with hao'
          injection hao' with q1 q2
          subst q1 q2
          have p1 := kp_cell c1
          have p2 := kp_cell c2
          clear c1 c2
          have hi0 : (0 : Int) < (i : Int) := by omega
          have hiD : decide (0 < i) = true := by rw [decide_eq_true_iff]; exact hip
          have hwp : IntKind.i64.wrap ((p.1 : Int) + (p.2 : Int)) = (p.1 : Int) + (p.2 : Int) := IntWalk.i64_in _ (by omega)
          have heq : ((p.1 : Int) + (p.2 : Int) == (a : Int)) = false := by simp; omega
          refine wp_region_kp (by kernel_rfl) (by kernel_rfl) ?_
          repeat (go_big_quiet_step ((rename_i x; first
            | exact kp_call x (aend_bel _ _ _ hwp))))
          with_reducible refine wpQuiet_nil ?_
          rintro _ ⟨y, rfl⟩
          have HK4 := Lib.hid (show Boxes y.w B N (.slice (some ⟨b0, o, none⟩) m cap) _ _ ∧ Gr [] w y.w from ⟨HK3.out.1.below y.h, HK3.out.2.nextB y.h⟩)
          clear s0 s1 e0 e1 hne p1 p2
          generalize y.w = w4 at *
          clear y
          go_wp2_with fail
          have s0 := kp_cell HK4.out.1.s0
          have s1 := kp_cell HK4.out.1.s1
          have e0 := kp_cell HK4.out.1.e0
          have e1 := kp_cell HK4.out.1.e1
          have hne := kp_ne w4
          obtain ⟨b0', o', hao', -, c1, c2⟩ := (HS.out.gr0 HK4.out.2).at HE.out
          injection hao' with hao'
          injection hao' with q1 q2
          subst q1 q2
          have k1 := kp_cell c1
          have k2 := kp_cell c2
          clear c1 c2
          have hwx : IntKind.i64.wrap ((a : Int) + (n : Int)) = (a : Int) + (n : Int) := IntWalk.i64_in _ (by omega)
          have heq2 : ((e.1 : Int) == (a : Int) + (n : Int)) = false := by simp; omega
          refine wp_region_kp (by kernel_rfl) (by kernel_rfl) ?_
          repeat (go_big_quiet_step ((rename_i x; first
            | exact kp_call x (aend_bel _ _ _ hwx))))
          with_reducible refine wpQuiet_nil ?_
          rintro _ ⟨y, rfl⟩
          have HK7 := Lib.hid (show Boxes y.w B N (.slice (some ⟨b0, o, none⟩) m cap) _ _ ∧ Gr [] w y.w from ⟨HK4.out.1.below y.h, HK4.out.2.nextB y.h⟩)
          clear s0 s1 e0 e1 hne k1 k2
          generalize y.w = w7 at *
          clear y
          have s0 := HK7.out.1.s0
          have s1 := HK7.out.1.s1
          have e0 := HK7.out.1.e0
          have e1 := HK7.out.1.e1
          have HRL := Lib.hid (HX.out.1 i i a n (mergeA_no HL.out (.inr ⟨p, by rw [← HP.out.2]; exact HP.out.1, HNE1.out⟩)) (by rw [mergeB_no HE.out (by omega)]))
          have HNW := Lib.hid (Holds.new w7 #[.int .i64 (a : Int), .int .i64 (n : Int)] 35)
          have HG9 := Lib.hid ((Gr.refl [] w7).alloc (Obj.cells #[.int .i64 (a : Int), .int .i64 (n : Int)] 35))
          go_wp2_with fail
          refine (HW.out _ (HK7.out.2.trans HG9.out) i i a n _ (by omega) (by omega) (HNW.out.cell 0) (HNW.out.cell 1) HRL.out).mono ?_
          rintro e' w9 ⟨ao', cap', rfl, hs, g, hk⟩
          obtain ⟨r0, r1, f0, f1, hz9⟩ := HFIN.out w9 _ _ _ ((HK7.out.1.gr0 HG9.out).gr0 g)
          have HZ9 := Lib.hid hz9
          have H6 := Lib.hid (And.intro hs (And.intro ((HK7.out.2.trans HG9.out).trans g) (fun k o' e => Nat.le_trans (show B + 3 ≤ _ from Nat.le_trans HK7.out.1.r.lt HG9.out.size) (hk k o' e))))
          clear hs g hk hz9
          go_wp2_with fail
          refine bodyPost_ret (v := .tuple #[.agg #[.int .i64 N, .slice ao' m' cap'], .int .i64 0]) (by simp [results, Try.results20, go_sem, *]) rfl ⟨ao', cap', rfl, HSG.out _ _ _ _ _ HZ9.out H6.out.1 H6.out.2.2, HGR.out _ _ _ H6.out.2.1, fun k o' e => by have := H6.out.2.2 k o' e; rw [HB0.out]; omega⟩
  · have hd : ¬ (i : Int) < (m : Int) := by omega
    refine wp_region_kp (by kernel_rfl) (by kernel_rfl) ?_
    repeat (go_big_quiet_step (fail))
    with_reducible refine wpQuiet_nil ?_
    rintro _ ⟨y, rfl⟩
    by_cases hi00 : i = 0
    · have hi0 : ¬ 0 < i := by omega
      have hiD : decide (0 < i) = false := by rw [decide_eq_false_iff_not]; omega
      have HI00 := Lib.hid hi00
      clear hi00
      have HK3 := Lib.hid (show Boxes y.w B N (.slice ao m cap) _ _ ∧ Gr [] w y.w from ⟨(HEND.out _ y.h).1, (HEND.out _ y.h).2⟩)
      clear s0 s1 e0 e1 hne 
      generalize y.w = w3 at *
      clear y
      go_wp2_with fail
      have s0 := kp_cell HK3.out.1.s0
      have s1 := kp_cell HK3.out.1.s1
      have e0 := kp_cell HK3.out.1.e0
      have e1 := kp_cell HK3.out.1.e1
      have hne := kp_ne w3
      refine wp_region_kp (by kernel_rfl) (by kernel_rfl) ?_
      repeat (go_big_quiet_step (fail))
      with_reducible refine wpQuiet_nil ?_
      rintro _ ⟨y, rfl⟩
      have HK4 := Lib.hid (show Boxes y.w B N (.slice ao m cap) _ _ ∧ Gr [] w y.w from ⟨HK3.out.1.below y.h, HK3.out.2.nextB y.h⟩)
      clear s0 s1 e0 e1 hne 
      generalize y.w = w4 at *
      clear y
      go_wp2_with fail
      have s0 := kp_cell HK4.out.1.s0
      have s1 := kp_cell HK4.out.1.s1
      have e0 := kp_cell HK4.out.1.e0
      have e1 := kp_cell HK4.out.1.e1
      have hne := kp_ne w4
      refine wp_region_kp (by kernel_rfl) (by kernel_rfl) ?_
      repeat (go_big_quiet_step (fail))
      with_reducible refine wpQuiet_nil ?_
      rintro _ ⟨y, rfl⟩
      have HK7 := Lib.hid (show Boxes y.w B N (.slice ao m cap) _ _ ∧ Gr [] w y.w from ⟨HK4.out.1.below y.h, HK4.out.2.nextB y.h⟩)
      clear s0 s1 e0 e1 hne 
      generalize y.w = w7 at *
      clear y
      have s0 := HK7.out.1.s0
      have s1 := HK7.out.1.s1
      have e0 := HK7.out.1.e0
      have e1 := HK7.out.1.e1
      have HRL := Lib.hid (HX.out.1 i i a n (mergeA_no HL.out (.inl HI00.out)) (by rw [mergeB_end (by have := HN.out; omega)]))
      have HNW := Lib.hid (Holds.new w7 #[.int .i64 (a : Int), .int .i64 (n : Int)] 35)
      have HG9 := Lib.hid ((Gr.refl [] w7).alloc (Obj.cells #[.int .i64 (a : Int), .int .i64 (n : Int)] 35))
      go_wp2_with fail
      refine (HW.out _ (HK7.out.2.trans HG9.out) i i a n _ (by omega) (by omega) (HNW.out.cell 0) (HNW.out.cell 1) HRL.out).mono ?_
      rintro e' w9 ⟨ao', cap', rfl, hs, g, hk⟩
      obtain ⟨r0, r1, f0, f1, hz9⟩ := HFIN.out w9 _ _ _ ((HK7.out.1.gr0 HG9.out).gr0 g)
      have HZ9 := Lib.hid hz9
      have H6 := Lib.hid (And.intro hs (And.intro ((HK7.out.2.trans HG9.out).trans g) (fun k o' e => Nat.le_trans (show B + 3 ≤ _ from Nat.le_trans HK7.out.1.r.lt HG9.out.size) (hk k o' e))))
      clear hs g hk hz9
      go_wp2_with fail
      refine bodyPost_ret (v := .tuple #[.agg #[.int .i64 N, .slice ao' m' cap'], .int .i64 0]) (by simp [results, Try.results20, go_sem, *]) rfl ⟨ao', cap', rfl, HSG.out _ _ _ _ _ HZ9.out H6.out.1 H6.out.2.2, HGR.out _ _ _ H6.out.2.1, fun k o' e => by have := H6.out.2.2 k o' e; rw [HB0.out]; omega⟩
    · obtain ⟨j, hj⟩ : ∃ j, j = i - 1 := ⟨_, rfl⟩
      obtain ⟨p, hp⟩ : ∃ p, l[j]? = some p := ⟨_, List.getElem?_eq_getElem (by have := HN.out; omega)⟩
      have hpb := HX.out.2.2 j p (by omega) hp
      have hpm := HS.out.mem hp
      obtain ⟨b0, o, hao, -, -, -⟩ := (HS.out.gr0 HK2.out.2).at hp
      subst hao
      have hj' : IntKind.i64.wrap ((i : Int) - 1) = (j : Int) := by rw [IntWalk.i64_in _ (by omega)]; omega
      have hip : 0 < i := by omega
      have hjm : j < m := by omega
      have HP := Lib.hid (And.intro hp hj)
      clear hp hj
      by_cases hpe : p.1 + p.2 = a
      · have HPE := Lib.hid hpe
        have HK3 := Lib.hid (show Boxes y.w B N (.slice (some ⟨b0, o, none⟩) m cap) _ _ ∧ Gr [] w y.w from ⟨(HEND.out _ y.h).1, (HEND.out _ y.h).2⟩)
        clear s0 s1 e0 e1 hne 
        generalize y.w = w3 at *
        clear y
        go_wp2_with fail
        have s0 := kp_cell HK3.out.1.s0
        have s1 := kp_cell HK3.out.1.s1
        have e0 := kp_cell HK3.out.1.e0
        have e1 := kp_cell HK3.out.1.e1
        have hne := kp_ne w3
        obtain ⟨b0', o', hao', -, c1, c2⟩ := (HS.out.gr0 HK3.out.2).at HP.out.1
        injection hao' with hao'
        injection hao' with q1 q2
        subst q1 q2
        have p1 := kp_cell c1
        have p2 := kp_cell c2
        clear c1 c2
        have hi0 : (0 : Int) < (i : Int) := by omega
        have hiD : decide (0 < i) = true := by rw [decide_eq_true_iff]; exact hip
        have hwp : IntKind.i64.wrap ((p.1 : Int) + (p.2 : Int)) = (p.1 : Int) + (p.2 : Int) := IntWalk.i64_in _ (by omega)
        have heq : ((p.1 : Int) + (p.2 : Int) == (a : Int)) = true := by simp; omega
        refine wp_region_kp (by kernel_rfl) (by kernel_rfl) ?_
        repeat (go_big_quiet_step ((rename_i x; first
          | exact kp_call x (aend_bel _ _ _ hwp))))
        with_reducible refine wpQuiet_nil ?_
        rintro _ ⟨y, rfl⟩
        have HK4 := Lib.hid (show Boxes y.w B N (.slice (some ⟨b0, o, none⟩) m cap) _ _ ∧ Gr [] w y.w from ⟨HK3.out.1.below y.h, HK3.out.2.nextB y.h⟩)
        clear s0 s1 e0 e1 hne p1 p2
        generalize y.w = w4 at *
        clear y
        go_wp2_with fail
        have s0 := kp_cell HK4.out.1.s0
        have s1 := kp_cell HK4.out.1.s1
        have e0 := kp_cell HK4.out.1.e0
        have e1 := kp_cell HK4.out.1.e1
        have hne := kp_ne w4
        obtain ⟨b0', o', hao', -, c1, c2⟩ := (HS.out.gr0 HK4.out.2).at HP.out.1
        injection hao' with hao'
        injection hao' with q1 q2
        subst q1 q2
        have p1 := kp_cell c1
        have p2 := kp_cell c2
        clear c1 c2
        obtain ⟨n2, hn2⟩ : ∃ n2, n2 = p.2 + n := ⟨_, rfl⟩
        have hn2' : (p.2 : Int) + (n : Int) = (n2 : Int) := by omega
        have hwn2 : IntKind.i64.wrap (n2 : Int) = (n2 : Int) := IntWalk.i64_in _ (by omega)
        have HN2 := Lib.hid hn2
        clear hn2
        refine wp_region_kp_tail 16 (by kernel_rfl) (by kernel_rfl) ?_
        simp only [List.take_succ_cons, List.take_zero, List.drop_succ_cons, List.drop_zero]
        repeat (go_big_quiet_step (fail))
        with_reducible refine wpQuiet_nil ?_
        rintro _ ⟨y, rfl⟩
        have HK5 := Lib.hid (show Boxes y.w B N (.slice (some ⟨b0, o, none⟩) m cap) _ _ ∧ Gr [] w y.w from ⟨HK4.out.1.below y.h, HK4.out.2.nextB y.h⟩)
        clear s0 s1 e0 e1 hne p1 p2
        generalize y.w = w5 at *
        clear y
        have s0 := HK5.out.1.s0
        have e0 := HK5.out.1.e0
        have e1 := HK5.out.1.e1
        have f0 := HK5.out.1.e.frozen 0
        have f1 := HK5.out.1.e.frozen 1
        have HK6 := Lib.hid (show Boxes ((w5.setCell ⟨B + 1, 0, none⟩ (.int .i64 (p.1 : Int))).setCell ⟨B + 1, 1, none⟩ (.int .i64 (n2 : Int))) B N (.slice (some ⟨b0, o, none⟩) m cap) (p.1 : Int) (n2 : Int) ∧ Gr [] w ((w5.setCell ⟨B + 1, 0, none⟩ (.int .i64 (p.1 : Int))).setCell ⟨B + 1, 1, none⟩ (.int .i64 (n2 : Int))) from
          ⟨HK5.out.1.setE _ _, (HK5.out.2.setCell (p := ⟨B + 1, 0, none⟩) (.inr (by rw [HB0.out]; simp only; omega)) _).setCell (p := ⟨B + 1, 1, none⟩) (.inr (by rw [HB0.out]; simp only; omega)) _⟩)
        go_wp2_with fail
        clear s0 e0 e1 f0 f1
        generalize (w5.setCell ⟨B + 1, 0, none⟩ (.int .i64 (p.1 : Int))).setCell ⟨B + 1, 1, none⟩ (.int .i64 (n2 : Int)) = w6 at *
        have hxL : p.1 + n2 = a + n := by have := HN2.out; omega
        have HXL := Lib.hid hxL
        have s0 := kp_cell HK6.out.1.s0
        have s1 := kp_cell HK6.out.1.s1
        have e0 := kp_cell HK6.out.1.e0
        have e1 := kp_cell HK6.out.1.e1
        have hne := kp_ne w6
        refine wp_region_kp (by kernel_rfl) (by kernel_rfl) ?_
        repeat (go_big_quiet_step (fail))
        with_reducible refine wpQuiet_nil ?_
        rintro _ ⟨y, rfl⟩
        have HK7 := Lib.hid (show Boxes y.w B N (.slice (some ⟨b0, o, none⟩) m cap) _ _ ∧ Gr [] w y.w from ⟨HK6.out.1.below y.h, HK6.out.2.nextB y.h⟩)
        clear s0 s1 e0 e1 hne 
        generalize y.w = w7 at *
        clear y
        have s0 := HK7.out.1.s0
        have s1 := HK7.out.1.s1
        have e0 := HK7.out.1.e0
        have e1 := HK7.out.1.e1
        have HRL := Lib.hid (HX.out.1 j i p.1 n2 ((by have := mergeA_yes HL.out hip (by rw [← HP.out.2]; exact HP.out.1) HPE.out; rw [← HP.out.2] at this; exact this)) (by rw [mergeB_end (by have := HN.out; omega), HXL.out]))
        have HNW := Lib.hid (Holds.new w7 #[.int .i64 (p.1 : Int), .int .i64 (n2 : Int)] 35)
        have HG9 := Lib.hid ((Gr.refl [] w7).alloc (Obj.cells #[.int .i64 (p.1 : Int), .int .i64 (n2 : Int)] 35))
        go_wp2_with fail
        refine (HW.out _ (HK7.out.2.trans HG9.out) j i p.1 n2 _ (by omega) (by omega) (HNW.out.cell 0) (HNW.out.cell 1) HRL.out).mono ?_
        rintro e' w9 ⟨ao', cap', rfl, hs, g, hk⟩
        obtain ⟨r0, r1, f0, f1, hz9⟩ := HFIN.out w9 _ _ _ ((HK7.out.1.gr0 HG9.out).gr0 g)
        have HZ9 := Lib.hid hz9
        have H6 := Lib.hid (And.intro hs (And.intro ((HK7.out.2.trans HG9.out).trans g) (fun k o' e => Nat.le_trans (show B + 3 ≤ _ from Nat.le_trans HK7.out.1.r.lt HG9.out.size) (hk k o' e))))
        clear hs g hk hz9
        go_wp2_with fail
        refine bodyPost_ret (v := .tuple #[.agg #[.int .i64 N, .slice ao' m' cap'], .int .i64 0]) (by simp [results, Try.results20, go_sem, *]) rfl ⟨ao', cap', rfl, HSG.out _ _ _ _ _ HZ9.out H6.out.1 H6.out.2.2, HGR.out _ _ _ H6.out.2.1, fun k o' e => by have := H6.out.2.2 k o' e; rw [HB0.out]; omega⟩
      · have HNE1 := Lib.hid (show p.1 + p.2 ≠ a from hpe)
        have HK3 := Lib.hid (show Boxes y.w B N (.slice (some ⟨b0, o, none⟩) m cap) _ _ ∧ Gr [] w y.w from ⟨(HEND.out _ y.h).1, (HEND.out _ y.h).2⟩)
        clear s0 s1 e0 e1 hne 
        generalize y.w = w3 at *
        clear y
        go_wp2_with fail
        have s0 := kp_cell HK3.out.1.s0
        have s1 := kp_cell HK3.out.1.s1
        have e0 := kp_cell HK3.out.1.e0
        have e1 := kp_cell HK3.out.1.e1
        have hne := kp_ne w3
        obtain ⟨b0', o', hao', -, c1, c2⟩ := (HS.out.gr0 HK3.out.2).at HP.out.1
        injection hao' with hao'
        injection hao' with q1 q2
        subst q1 q2
        have p1 := kp_cell c1
        have p2 := kp_cell c2
        clear c1 c2
        have hi0 : (0 : Int) < (i : Int) := by omega
        have hiD : decide (0 < i) = true := by rw [decide_eq_true_iff]; exact hip
        have hwp : IntKind.i64.wrap ((p.1 : Int) + (p.2 : Int)) = (p.1 : Int) + (p.2 : Int) := IntWalk.i64_in _ (by omega)
        have heq : ((p.1 : Int) + (p.2 : Int) == (a : Int)) = false := by simp; omega
        refine wp_region_kp (by kernel_rfl) (by kernel_rfl) ?_
        repeat (go_big_quiet_step ((rename_i x; first
          | exact kp_call x (aend_bel _ _ _ hwp))))
        with_reducible refine wpQuiet_nil ?_
        rintro _ ⟨y, rfl⟩
        have HK4 := Lib.hid (show Boxes y.w B N (.slice (some ⟨b0, o, none⟩) m cap) _ _ ∧ Gr [] w y.w from ⟨HK3.out.1.below y.h, HK3.out.2.nextB y.h⟩)
        clear s0 s1 e0 e1 hne p1 p2
        generalize y.w = w4 at *
        clear y
        go_wp2_with fail
        have s0 := kp_cell HK4.out.1.s0
        have s1 := kp_cell HK4.out.1.s1
        have e0 := kp_cell HK4.out.1.e0
        have e1 := kp_cell HK4.out.1.e1
        have hne := kp_ne w4
        refine wp_region_kp (by kernel_rfl) (by kernel_rfl) ?_
        repeat (go_big_quiet_step (fail))
        with_reducible refine wpQuiet_nil ?_
        rintro _ ⟨y, rfl⟩
        have HK7 := Lib.hid (show Boxes y.w B N (.slice (some ⟨b0, o, none⟩) m cap) _ _ ∧ Gr [] w y.w from ⟨HK4.out.1.below y.h, HK4.out.2.nextB y.h⟩)
        clear s0 s1 e0 e1 hne 
        generalize y.w = w7 at *
        clear y
        have s0 := HK7.out.1.s0
        have s1 := HK7.out.1.s1
        have e0 := HK7.out.1.e0
        have e1 := HK7.out.1.e1
        have HRL := Lib.hid (HX.out.1 i i a n (mergeA_no HL.out (.inr ⟨p, by rw [← HP.out.2]; exact HP.out.1, HNE1.out⟩)) (by rw [mergeB_end (by have := HN.out; omega)]))
        have HNW := Lib.hid (Holds.new w7 #[.int .i64 (a : Int), .int .i64 (n : Int)] 35)
        have HG9 := Lib.hid ((Gr.refl [] w7).alloc (Obj.cells #[.int .i64 (a : Int), .int .i64 (n : Int)] 35))
        go_wp2_with fail
        refine (HW.out _ (HK7.out.2.trans HG9.out) i i a n _ (by omega) (by omega) (HNW.out.cell 0) (HNW.out.cell 1) HRL.out).mono ?_
        rintro e' w9 ⟨ao', cap', rfl, hs, g, hk⟩
        obtain ⟨r0, r1, f0, f1, hz9⟩ := HFIN.out w9 _ _ _ ((HK7.out.1.gr0 HG9.out).gr0 g)
        have HZ9 := Lib.hid hz9
        have H6 := Lib.hid (And.intro hs (And.intro ((HK7.out.2.trans HG9.out).trans g) (fun k o' e => Nat.le_trans (show B + 3 ≤ _ from Nat.le_trans HK7.out.1.r.lt HG9.out.size) (hk k o' e))))
        clear hs g hk hz9
        go_wp2_with fail
        refine bodyPost_ret (v := .tuple #[.agg #[.int .i64 N, .slice ao' m' cap'], .int .i64 0]) (by simp [results, Try.results20, go_sem, *]) rfl ⟨ao', cap', rfl, HSG.out _ _ _ _ _ HZ9.out H6.out.1 H6.out.2.2, HGR.out _ _ _ H6.out.2.1, fun k o' e => by have := H6.out.2.2 k o' e; rw [HB0.out]; omega⟩

end Go.Proofs.Ytpkhfdcokcchdaa
