/-
  Layer 23: DescPlays, walked.
-/
import Derived.Test.YtpkhfdcokcchdaaDesL
import Derived.Deep.CutBlock
import Derived.Deep.DeepCutAuto
import Derived.Deep.RegionHeld3
namespace Go.Proofs.Ytpkhfdcokcchdaa
open Go.RowKit

theorem minIsD (P : Program) (L m k : Nat) (kI : Int) (hk : kI = k) (h : m = min L k) (ts : Array TypeId) (t : TypeId) (w : World) : (Builtin.min_ ts t #[.int .i64 (L : Int), .int .i64 kI]).run P w = .ok (.int .i64 (m : Int)) w := by
  subst hk
  rw [run_min_int2]
  have : (if (k : Int) < (L : Int) then (k : Int) else (L : Int)) = (m : Int) := by split <;> omega
  rw [this]
theorem count_is (bt br n m : Nat) (x : Int) (D : Nat → Nat → Int × Int × Int) (w : World) (h : Tabs w bt br n D) (hm : m = cntD D x n) :
    Calls Try.prog 70 #[.pointer (some ⟨bt, 0, none⟩), .int .i64 x] w fun e w' => e = .returned (.int .i64 m) ∧ Gr [] w w' := by
  subst hm
  exact count_any bt br n x D w h
theorem kA3 {W : World} {b : Nat} {x y z : Value} (h : W.cell? ⟨b, 1, none⟩ = some x ∧ W.cell? ⟨b, 2, none⟩ = some y ∧ W.cell? ⟨b, 3, none⟩ = some z) : W.drew.cell? ⟨b, 1, none⟩ = some x ∧ W.drew.cell? ⟨b, 2, none⟩ = some y ∧ W.drew.cell? ⟨b, 3, none⟩ = some z := h

set_option maxRecDepth 100000 in
set_option maxHeartbeats 16000000 in
theorem dplays_none (az : Int) (aO : Option Addr) (acap : Nat) (w : World) (hO : aO = none → acap = 0) (hmax : acap ≤ maxLen) :
    Calls Try.prog 14 #[.int .i64 az, .slice aO 0 acap] w fun e w' => e = .returned (.bool true) ∧ Gr [] w w' := by
  have hmn := minIsD Try.prog 0 0 80 80 rfl rfl
  unfold maxLen at hmax
  have hmx := max0 Try.prog
  obtain ⟨n, hn, hn1, hn8⟩ : ∃ n : Nat, 1 + mx az % 8 = (n : Int) ∧ 1 ≤ n ∧ n ≤ 8 := ⟨(1 + mx az % 8).toNat, by have := mx_nonneg az; omega, by have := mx_nonneg az; omega, by have := mx_nonneg az; omega⟩
  have hn0 := mx_nonneg az
  go_enter Try.func14, Try.ntmps14
  go_wp2_with fail
  refine (dnew_yes n _ hn1 hn8).mono ?_
  rintro e w1 ⟨bt, br, rfl, t1, l1, l2, g1⟩
  have HP1 := Lib.hid (show DSt w (w1.alloc (Obj.cells #[.int .i64 n, .slice none 0 0] 114)) bt br w1.heap.size n noneD [] (.slice none 0 0) from by
    have ga := (Gr.refl [] w1).alloc (Obj.cells #[.int .i64 n, .slice none 0 0] 114)
    exact ⟨⟨t1.gr0 ga, ⟨Holds.new w1 _ _, World.ownsRow_nil _ _ _ _⟩, LIs.nil n, LCnt.nil n⟩, g1.next0 ga, l2, g1.size, t1.head.lt, t1.row.lt⟩)
  clear t1 l1 l2 g1 hmx hn0
  go_wp2_with fail
  generalize w1.alloc (Obj.cells #[.int .i64 n, .slice none 0 0] 114) = w2 at *
  obtain ⟨bm, hbm⟩ : ∃ b, w1.heap.size = b := ⟨_, rfl⟩
  rw [hbm] at HP1 ⊢
  clear hbm
  refine (wakes23_any _).mono ?_
  rintro e w3 ⟨rfl, g3⟩
  have HP3 := Lib.hid (HP1.out.gr0 g3)
  clear HP1 g3
  cases aO with
  | none =>
    obtain rfl := hO rfl
    go_wp2_with fail
    go_loopw [54] (fun i wr => i = .int .i64 0 ∧ Gr [] w wr) (fun i _ => 0)
    case atStart => exact ⟨rfl, HP3.out.gr⟩
    case round =>
      clear HP3
      obtain ⟨rfl, G⟩ := hrel
      go_wp2_with fail
      go_ret
      exact ⟨rfl, G⟩
  | some ad =>
    go_wp2_with fail
    go_loopw [54] (fun i wr => i = .int .i64 0 ∧ Gr [] w wr) (fun i _ => 0)
    case atStart => exact ⟨rfl, HP3.out.gr⟩
    case round =>
      clear HP3
      obtain ⟨rfl, G⟩ := hrel
      go_wp2_with fail
      go_ret
      exact ⟨rfl, G⟩

set_option maxRecDepth 100000 in
set_option maxHeartbeats 32000000 in
theorem dplays_some (az : Int) (ab aoff AL acap : Nat) (fs : Nat → Nat → Int) (w : World) (hcap : AL ≤ acap) (hmax : acap ≤ maxLen) (hab : ab < w.heap.size)
    (hx : ∀ i, i < AL → ∀ j, j < 4 → w.cell? ⟨ab, aoff + i * 4 + j, none⟩ = some (.int .i64 (fs i j)) ∧ (-9223372036854775808 ≤ fs i j ∧ fs i j ≤ 9223372036854775807)) :
    Calls Try.prog 14 #[.int .i64 az, .slice (some ⟨ab, aoff, none⟩) AL acap] w fun e w' => e = .returned (.bool true) ∧ Gr [] w w' := by
  obtain ⟨M, hM⟩ : ∃ M, M = min AL 80 := ⟨_, rfl⟩
  have hmn := minIsD Try.prog AL M 80 80 rfl hM
  have hM1 : M ≤ AL := by omega
  have hM2 : M ≤ 80 := by omega
  have HX := Lib.hid hx
  unfold maxLen at hmax
  clear hx hM
  have hmx := max0 Try.prog
  obtain ⟨n, hn, hn1, hn8⟩ : ∃ n : Nat, 1 + mx az % 8 = (n : Int) ∧ 1 ≤ n ∧ n ≤ 8 := ⟨(1 + mx az % 8).toNat, by have := mx_nonneg az; omega, by have := mx_nonneg az; omega, by have := mx_nonneg az; omega⟩
  have hn0 := mx_nonneg az
  go_enter Try.func14, Try.ntmps14
  go_wp2_with fail
  refine (dnew_yes n _ hn1 hn8).mono ?_
  rintro e w1 ⟨bt, br, rfl, t1, l1, l2, g1⟩
  have HP1 := Lib.hid (show DSt w (w1.alloc (Obj.cells #[.int .i64 n, .slice none 0 0] 114)) bt br w1.heap.size n noneD [] (.slice none 0 0) from by
    have ga := (Gr.refl [] w1).alloc (Obj.cells #[.int .i64 n, .slice none 0 0] 114)
    exact ⟨⟨t1.gr0 ga, ⟨Holds.new w1 _ _, World.ownsRow_nil _ _ _ _⟩, LIs.nil n, LCnt.nil n⟩, g1.next0 ga, l2, g1.size, t1.head.lt, t1.row.lt⟩)
  clear t1 l1 l2 g1 hmx hn0
  go_wp2_with fail
  generalize w1.alloc (Obj.cells #[.int .i64 n, .slice none 0 0] 114) = w2 at *
  obtain ⟨bm, hbm⟩ : ∃ b, w1.heap.size = b := ⟨_, rfl⟩
  rw [hbm] at HP1 ⊢
  clear hbm
  refine (wakes23_any _).mono ?_
  rintro e w3 ⟨rfl, g3⟩
  have HP3 := Lib.hid (HP1.out.gr0 g3)
  clear HP1 g3
  go_wp2_with fail
  clear hmn
  go_loopw [54] (fun i wr => ∃ (k : Nat) (D : Nat → Nat → Int × Int × Int) (L : List OpenR) (v : Value), k ≤ M ∧ i = .int .i64 k ∧ DSt w wr bt br bm n D L v) (fun i _ => M - (intOf i).toNat)
  case atStart => exact ⟨0, _, _, _, by omega, rfl, HP3.out⟩
  case round =>
    clear HP3
    obtain ⟨k, D, L, v, hk, rfl, hP⟩ := hrel
    have HP := Lib.hid hP
    clear hP
    by_cases hkM : k < M
    · have hkM2 : (k : Int) < (M : Int) := by omega
      obtain ⟨d, hd⟩ : ∃ d, d = fs k 0 := ⟨_, rfl⟩
      obtain ⟨c, hc⟩ : ∃ c, c = fs k 1 := ⟨_, rfl⟩
      obtain ⟨f, hf⟩ : ∃ f, f = fs k 2 := ⟨_, rfl⟩
      obtain ⟨a, ha⟩ : ∃ a, a = fs k 3 := ⟨_, rfl⟩
      have y0 := HX.out k (by omega) 0 (by omega)
      have y1 := HX.out k (by omega) 1 (by omega)
      have y2 := HX.out k (by omega) 2 (by omega)
      have y3 := HX.out k (by omega) 3 (by omega)
      rw [← hd, Nat.add_zero] at y0
      rw [← hc] at y1
      rw [← hf] at y2
      rw [← ha] at y3
      have e0 : wr.cell? ⟨ab, aoff + k * 4, none⟩ = some (.int .i64 d) := (HP.out.gr.cell0 hab).trans y0.1
      have e1 : wr.cell? ⟨ab, aoff + k * 4 + 1, none⟩ = some (.int .i64 c) := (HP.out.gr.cell0 hab).trans y1.1
      have e2 : wr.cell? ⟨ab, aoff + k * 4 + 2, none⟩ = some (.int .i64 f) := (HP.out.gr.cell0 hab).trans y2.1
      have e3 : wr.cell? ⟨ab, aoff + k * 4 + 3, none⟩ = some (.int .i64 a) := (HP.out.gr.cell0 hab).trans y3.1
      clear y0 y1 y2 y3 hd hc hf ha
      have hmx := max0 Try.prog
      have hd0 := mx_nonneg d
      have hs : mx d % 5 = 0 ∨ mx d % 5 = 1 ∨ mx d % 5 = 2 ∨ mx d % 5 = 3 ∨ mx d % 5 = 4 := by omega
      have HA := Lib.hid (show DAct (wr.alloc (Obj.cells #[.int .i64 d, .int .i64 c, .int .i64 f, .int .i64 a] 116)) wr.heap.size d c f a from ⟨Holds.new wr _ _⟩)
      have HPA := Lib.hid (HP.out.gr0 ((Gr.refl [] wr).alloc (Obj.cells #[.int .i64 d, .int .i64 c, .int .i64 f, .int .i64 a] 116)))
      have HLT := Lib.hid (show wr.heap.size ∉ tabB bm v ∧ wr.heap.size ∉ [br] from ⟨fun e => by have := (HP.out.p.rt.lt _ e).2; omega, fun e => by simp at e; have := HP.out.p.tabs.row.lt; omega⟩)
      have k0 := HA.out.x.cell 0
      go_upto_block 2 with fail
      clear e0 e1 e2 e3 HP
      generalize wr.alloc (Obj.cells #[.int .i64 d, .int .i64 c, .int .i64 f, .int .i64 a] 116) = wa at *
      generalize wr.heap.size = b9 at *
      generalize mx d % 5 = sw at *
      go_cut [10] (fun okv wz => okv = .bool true ∧ ∃ (D' : Nat → Nat → Int × Int × Int) (L' : List OpenR) (v' : Value), DSt w wz bt br bm n D' L' v' ∧ DAct wz b9 d c f a)
      case first =>
        rcases hs with rfl | rfl | rfl | rfl | rfl
        · as_aux_lemma =>
            obtain ⟨r1, e, D', L', hk16, he23, hl', hc', HU, HR⟩ := add_both bt br bm n D L c f a HPA.out.p.lis HPA.out.p.cnt HPA.out.p.len
            have HUU := Lib.hid HU
            have HRR := Lib.hid HR
            have HLC := Lib.hid (And.intro hl' hc')
            have a1 := HA.out.x.cell 1
            have a2 := HA.out.x.cell 2
            have a3 := HA.out.x.cell 3
            clear HU HR hl' hc' hmx
            go_wp2_with fail
            refine (HUU.out _ HPA.out.p.tabs).mono ?_
            rintro r w5 ⟨rfl, t5, g5⟩
            have H5 := Lib.hid (And.intro t5 (And.intro g5 (And.intro (HPA.out.p.rt.grP g5 HPA.out.ap2) (HA.out.gr g5 HLT.out.2))))
            clear t5 g5 a1 a2 a3 k0
            have a1 := H5.out.2.2.2.x.cell 1
            have a2 := H5.out.2.2.2.x.cell 2
            have a3 := H5.out.2.2.2.x.cell 3
            go_wp2_with fail
            refine (HRR.out _ _ H5.out.2.2.1).mono ?_
            rintro r w6 ⟨v', rfl, r6, g6⟩
            have HZ := Lib.hid (And.intro (HPA.out.both H5.out.1 H5.out.2.1 H5.out.2.2.1 r6 g6 HLC.out.1 HLC.out.2) (H5.out.2.2.2.gr g6 HLT.out.1))
            clear r6 g6 a1 a2 a3
            go_wp2_with fail
            go_meet
            exact ⟨rfl, D', L', v', HZ.out.1, HZ.out.2⟩
        · as_aux_lemma =>
            obtain ⟨r1, e, D', L', hk16, he23, hl', hc', HU, HR⟩ := add_both bt br bm n D L c f a HPA.out.p.lis HPA.out.p.cnt HPA.out.p.len
            have HUU := Lib.hid HU
            have HRR := Lib.hid HR
            have HLC := Lib.hid (And.intro hl' hc')
            have a1 := HA.out.x.cell 1
            have a2 := HA.out.x.cell 2
            have a3 := HA.out.x.cell 3
            clear HU HR hl' hc' hmx
            go_wp2_with fail
            refine (HUU.out _ HPA.out.p.tabs).mono ?_
            rintro r w5 ⟨rfl, t5, g5⟩
            have H5 := Lib.hid (And.intro t5 (And.intro g5 (And.intro (HPA.out.p.rt.grP g5 HPA.out.ap2) (HA.out.gr g5 HLT.out.2))))
            clear t5 g5 a1 a2 a3 k0
            have a1 := H5.out.2.2.2.x.cell 1
            have a2 := H5.out.2.2.2.x.cell 2
            have a3 := H5.out.2.2.2.x.cell 3
            go_wp2_with fail
            refine (HRR.out _ _ H5.out.2.2.1).mono ?_
            rintro r w6 ⟨v', rfl, r6, g6⟩
            have HZ := Lib.hid (And.intro (HPA.out.both H5.out.1 H5.out.2.1 H5.out.2.2.1 r6 g6 HLC.out.1 HLC.out.2) (H5.out.2.2.2.gr g6 HLT.out.1))
            clear r6 g6 a1 a2 a3
            go_wp2_with fail
            go_meet
            exact ⟨rfl, D', L', v', HZ.out.1, HZ.out.2⟩
        · as_aux_lemma =>
            have heq := oeqIn
            have hgO := fun (W : World) (op : BinOp) (x y : Operand) (xs ys : Array Value) => run_eqGuard_agg (P := Try.prog) (w := W) op 122 x y xs ys oguard
            rcases get_both bt br bm n D L c f HPA.out.p.lis HPA.out.p.len with ⟨e, he, he2, HG, HF⟩ | ⟨kk, c', f', x, hcc, hff, hcn, hf16, hDf, hD, hx, hxc, hxf, HG, HF⟩
            · have HGG := Lib.hid HG
              have HFF := Lib.hid HF
              have de : ((e : Int) == 0) = false := by simp; omega
              have dn : ((e : Int) != 0) = true := by simp; omega
              have a1 := HA.out.x.cell 1
              have a2 := HA.out.x.cell 2
              clear HG HF hmx he
              go_wp2_with fail
              refine (HGG.out _ HPA.out.p.tabs).mono ?_
              rintro r w5 ⟨rfl, g5⟩
              have gx := g5.alloc (Obj.cells #[.int .i64 0, .int .i64 0, .int .i64 0] 122)
              have H5 := Lib.hid (And.intro (HPA.out.gr0 gx) (And.intro (HA.out.gr0 gx) (Holds.new w5 #[.int .i64 0, .int .i64 0, .int .i64 0] 122)))
              clear g5 gx a1 a2 k0
              have a1 := H5.out.2.1.x.cell 1
              have a2 := H5.out.2.1.x.cell 2
              go_wp2_with fail
              clear a1 a2
              generalize w5.alloc (Obj.cells #[.int .i64 0, .int .i64 0, .int .i64 0] 122) = w6 at *
              obtain ⟨b5, hb5⟩ : ∃ b, w5.heap.size = b := ⟨_, rfl⟩
              rw [hb5] at H5 ⊢
              clear hb5
              refine (HFF.out _ _ H5.out.1.p.rt).mono ?_
              rintro r w7 ⟨rfl, g7⟩
              have H7 := Lib.hid (And.intro (H5.out.1.gr0 g7) (And.intro (H5.out.2.1.gr0 g7) (H5.out.2.2.gr0 g7)))
              clear g7 H5
              have u0 := H7.out.2.2.cell 0
              have u1 := H7.out.2.2.cell 1
              have u2 := H7.out.2.2.cell 2
              go_wp2_with fail
              go_quiet (fail)
              go_wp2_with fail
              go_meet
              exact ⟨rfl, D, L, v, H7.out.1.gr0 ((Gr.refl [] w7).drewN _), H7.out.2.1.gr0 ((Gr.refl [] w7).drewN _)⟩
            · have HGG := Lib.hid HG
              have HFF := Lib.hid HF
              have HXX := Lib.hid hx
              have a1 := HA.out.x.cell 1
              have a2 := HA.out.x.cell 2
              clear HG HF hmx hcc hff hcn hf16 hDf hD hx hxc hxf
              go_wp2_with fail
              refine (HGG.out _ HPA.out.p.tabs).mono ?_
              rintro r w5 ⟨rfl, g5⟩
              have gx := g5.alloc (Obj.cells #[.int .i64 x.n, .int .i64 x.g, .int .i64 x.a] 122)
              have H5 := Lib.hid (And.intro (HPA.out.gr0 gx) (And.intro (HA.out.gr0 gx) (Holds.new w5 #[.int .i64 x.n, .int .i64 x.g, .int .i64 x.a] 122)))
              clear g5 gx a1 a2 k0
              have a1 := H5.out.2.1.x.cell 1
              have a2 := H5.out.2.1.x.cell 2
              go_wp2_with fail
              clear a1 a2
              generalize w5.alloc (Obj.cells #[.int .i64 x.n, .int .i64 x.g, .int .i64 x.a] 122) = w6 at *
              obtain ⟨b5, hb5⟩ : ∃ b, w5.heap.size = b := ⟨_, rfl⟩
              rw [hb5] at H5 ⊢
              clear hb5
              refine (HFF.out _ _ H5.out.1.p.rt).mono ?_
              rintro r w7 ⟨rfl, g7⟩
              have H7 := Lib.hid (And.intro (H5.out.1.gr0 g7) (And.intro (H5.out.2.1.gr0 g7) (H5.out.2.2.gr0 g7)))
              clear g7 H5
              have u0 := H7.out.2.2.cell 0
              have m1 := H7.out.1.p.rt.head.cell 1
              have hlen := H7.out.1.p.len
              obtain ⟨g', cp', hv, hcp, -, -, -, -, z2, -, -⟩ := H7.out.1.p.rt.at HXX.out
              have hkN := (List.getElem?_eq_some_iff.1 HXX.out).1
              rw [hv] at m1
              obtain ⟨N, hN⟩ : ∃ N, N = L.length := ⟨_, rfl⟩
              rw [← hN] at m1 hkN hcp hlen
              clear hv hN
              go_wp2_with fail
              go_quiet (fail)
              go_wp2_with fail
              go_meet
              exact ⟨rfl, D, L, v, H7.out.1.gr0 ((Gr.refl [] w7).drewN _), H7.out.2.1.gr0 ((Gr.refl [] w7).drewN _)⟩
        · as_aux_lemma =>
            obtain ⟨e, D', L', he2, hl', hc', HU, HR⟩ := seek_both bt br bm n D L c f a HPA.out.p.lis HPA.out.p.cnt HPA.out.p.len
            have HUU := Lib.hid HU
            have HRR := Lib.hid HR
            have HLC := Lib.hid (And.intro hl' hc')
            have HCL := Lib.hid (fun (W : World) (h : DAct W b9 d c f a) => And.intro (show W.cell? ⟨b9, 1, none⟩ = some (.int .i64 c) from h.x.cell 1) (And.intro (show W.cell? ⟨b9, 2, none⟩ = some (.int .i64 f) from h.x.cell 2) (show W.cell? ⟨b9, 3, none⟩ = some (.int .i64 a) from h.x.cell 3)))
            clear HU HR hl' hc' hmx
            go_wp2_with fail
            clear k0
            have s0 := HCL.out _ HA.out
            have s1 := kA3 s0
            go_region_held3 (fun w' : World => w'.cell? ⟨b9, 1, none⟩ = some (.int .i64 c) ∧ w'.cell? ⟨b9, 2, none⟩ = some (.int .i64 f) ∧ w'.cell? ⟨b9, 3, none⟩ = some (.int .i64 a)) (with_reducible (first | assumption | exact kA3 (by assumption))) ((first
              | (go_at_call 66; (with_reducible refine (HRR.out _ _ (HS5.out.2.2.1.gr0 (by repeat (with_reducible first | exact Gr.refl _ _ | refine Gr.drew ?_)))).mono ?_); rintro r w6 ⟨rfl, r6, g6⟩; have HZ := Lib.hid (And.intro (HS0.out.both (HS5.out.1.gr0 (by repeat (with_reducible first | exact Gr.refl _ _ | refine Gr.drew ?_))) (HS5.out.2.1.trans (grB_of (by repeat (with_reducible first | exact Gr.refl _ _ | refine Gr.drew ?_)))) (HS5.out.2.2.1.gr0 (by repeat (with_reducible first | exact Gr.refl _ _ | refine Gr.drew ?_))) r6 g6 HLC.out.1 HLC.out.2) ((HS5.out.2.2.2.gr0 (by repeat (with_reducible first | exact Gr.refl _ _ | refine Gr.drew ?_))).gr g6 HLT.out.1)); have s6 := HCL.out _ HZ.out.2; have s6a := s6.1; have s6b := s6.2.1; have s6c := s6.2.2; clear r6 g6)
              | (go_at_call 65; (with_reducible refine (HUU.out _ (HT5.out.2.1.gr0 (by repeat (with_reducible first | exact Gr.refl _ _ | refine Gr.drew ?_)))).mono ?_); rintro r w6 ⟨rfl, t6, g6⟩; have HZ := Lib.hid (And.intro (HT0.out.both2 (HT5.out.1.gr0 (by repeat (with_reducible first | exact Gr.refl _ _ | refine Gr.drew ?_))) (HT5.out.2.2.1.trans (grT_of (by repeat (with_reducible first | exact Gr.refl _ _ | refine Gr.drew ?_)))) t6 g6 HLC.out.1 HLC.out.2) ((HT5.out.2.2.2.gr0 (by repeat (with_reducible first | exact Gr.refl _ _ | refine Gr.drew ?_))).gr g6 HLT.out.2)); have s6 := HCL.out _ HZ.out.2; have s6a := s6.1; have s6b := s6.2.1; have s6c := s6.2.2; clear t6 g6)
              | (go_at_call 65; (with_reducible refine (HUU.out _ (HPA.out.gr0 (by repeat (with_reducible first | exact Gr.refl _ _ | refine Gr.drew ?_))).p.tabs).mono ?_); rintro r w5 ⟨rfl, t5, g5⟩; have HS5 := Lib.hid (And.intro t5 (And.intro (g5.trans (Gr.refl [br] w5)) (And.intro ((HPA.out.gr0 (by repeat (with_reducible first | exact Gr.refl _ _ | refine Gr.drew ?_))).p.rt.grP g5 HPA.out.ap2) ((HA.out.gr0 (by repeat (with_reducible first | exact Gr.refl _ _ | refine Gr.drew ?_))).gr g5 HLT.out.2)))); have HS0 := Lib.hid (HPA.out.at (by repeat (with_reducible first | exact Gr.refl _ _ | refine Gr.drew ?_)) g5); have s5 := HCL.out _ HS5.out.2.2.2; have s5a := s5.1; have s5b := s5.2.1; have s5c := s5.2.2; clear t5 g5)
              | (go_at_call 66; (with_reducible refine (HRR.out _ _ (HPA.out.gr0 (by repeat (with_reducible first | exact Gr.refl _ _ | refine Gr.drew ?_))).p.rt).mono ?_); rintro r w5 ⟨rfl, r5, g5⟩; have HT5 := Lib.hid (And.intro r5 (And.intro ((HPA.out.gr0 (by repeat (with_reducible first | exact Gr.refl _ _ | refine Gr.drew ?_))).p.tabs.grR (HPA.out.gr0 (by repeat (with_reducible first | exact Gr.refl _ _ | refine Gr.drew ?_))).p.rt g5 HPA.out.ap1 HPA.out.ap2) (And.intro g5 ((HA.out.gr0 (by repeat (with_reducible first | exact Gr.refl _ _ | refine Gr.drew ?_))).gr g5 HLT.out.1)))); have HT0 := Lib.hid (HPA.out.at (by repeat (with_reducible first | exact Gr.refl _ _ | refine Gr.drew ?_)) g5); have s5 := HCL.out _ HT5.out.2.2.2; have s5a := s5.1; have s5b := s5.2.1; have s5c := s5.2.2; clear r5 g5)))
            all_goals go_wp2_with fail
            all_goals go_meet
            all_goals exact ⟨rfl, D', L', v, HZ.out.1.gr0 (by repeat (with_reducible first | exact Gr.refl _ _ | refine Gr.drew ?_)), HZ.out.2.gr0 (by repeat (with_reducible first | exact Gr.refl _ _ | refine Gr.drew ?_))⟩
        · as_aux_lemma =>
            obtain ⟨r1, e, D', L', he23, hl', hc', HU, HR⟩ := close_both bt br bm n D L c f HPA.out.p.lis HPA.out.p.cnt HPA.out.p.len
            have HUU := Lib.hid HU
            have HRR := Lib.hid HR
            have HLC := Lib.hid (And.intro hl' hc')
            have a1 := HA.out.x.cell 1
            have a2 := HA.out.x.cell 2
            clear HU HR hl' hc' hmx
            go_wp2_with fail
            refine (HUU.out _ HPA.out.p.tabs).mono ?_
            rintro r w5 ⟨rfl, t5, g5⟩
            have H5 := Lib.hid (And.intro t5 (And.intro g5 (And.intro (HPA.out.p.rt.grP g5 HPA.out.ap2) (HA.out.gr g5 HLT.out.2))))
            clear t5 g5 a1 a2 k0
            have a1 := H5.out.2.2.2.x.cell 1
            have a2 := H5.out.2.2.2.x.cell 2
            go_wp2_with fail
            refine (HRR.out _ _ H5.out.2.2.1).mono ?_
            rintro r w6 ⟨v', rfl, r6, g6⟩
            have HZ := Lib.hid (And.intro (HPA.out.both H5.out.1 H5.out.2.1 H5.out.2.2.1 r6 g6 HLC.out.1 HLC.out.2) (H5.out.2.2.2.gr g6 HLT.out.1))
            clear r6 g6 a1 a2
            go_wp2_with fail
            go_meet
            exact ⟨rfl, D', L', v', HZ.out.1, HZ.out.2⟩
      case rest =>
        as_aux_lemma =>
          obtain ⟨hok, D', L', v', hst, hact⟩ := hcut
          subst hok
          clear hmx k0 hs HA HPA HLT
          have H := Lib.hid (And.intro hst hact)
          have m1 := hst.p.rt.head.cell 1
          have hlen := hst.p.len
          obtain ⟨ao, cap, hv, hcap, hsm⟩ := own_sh hst.p.rt.row
          subst hv
          obtain ⟨N, hN⟩ : ∃ N, N = L'.length := ⟨_, rfl⟩
          rw [← hN] at m1 hlen hcap H
          have HN := Lib.hid hN
          clear hst hact hsm hN
          go_wp2_with fail
          go_loopw [23, 196] (fun s i wr => ∃ q : Nat, q ≤ N ∧ i = .int .i64 q ∧ s = .int .i64 (cntL (fun z => z == f) (L'.take q)) ∧ Gr [] wc wr) (fun _ i _ => N - (intOf i).toNat)
          case atStart => exact ⟨0, by omega, rfl, rfl, Gr.refl _ _⟩
          case round =>
            obtain ⟨q, hq, rfl, rfl, G⟩ := hrel
            have HQ := Lib.hid (And.intro (H.out.1.gr0 G) (And.intro (H.out.2.gr0 G) G))
            clear G
            have hcb := cntL_take_le (fun z => z == f) L' q
            rw [← HN.out] at hcb
            by_cases hqN : q < N
            · have hqN2 : (q : Int) < (N : Int) := by omega
              obtain ⟨x, hx⟩ : ∃ x, L'[q]? = some x := ⟨_, List.getElem?_eq_getElem (by have := HN.out; omega)⟩
              obtain ⟨g', cp', hv, -, -, -, z0, z1, z2, z3, z4⟩ := HQ.out.1.p.rt.at hx
              injection hv with e1 e2 e3
              subst e1 e3
              have hst := cntL_step (fun z => z == f) hx
              obtain ⟨s1, hs1⟩ : ∃ s1, s1 = cntL (fun z => z == f) (L'.take q) := ⟨_, rfl⟩
              rw [← hs1] at hst hcb ⊢
              have ga := HQ.out.2.2.alloc (Obj.cells #[.int .i64 x.c, .int .i64 x.f, .int .i64 x.n, .int .i64 x.g, .int .i64 x.a] 127)
              have HGA := Lib.hid ga
              have a2 : (wr.alloc (Obj.cells #[.int .i64 x.c, .int .i64 x.f, .int .i64 x.n, .int .i64 x.g, .int .i64 x.a] 127)).cell? ⟨b9, 2, none⟩ = some (.int .i64 f) := (HQ.out.2.1.gr0 ((Gr.refl [] _).alloc _)).x.cell 2
              have u2 : (wr.alloc (Obj.cells #[.int .i64 x.c, .int .i64 x.f, .int .i64 x.n, .int .i64 x.g, .int .i64 x.a] 127)).cell? ⟨wr.heap.size, 2, none⟩ = some (.int .i64 x.n) := (Holds.new wr #[.int .i64 x.c, .int .i64 x.f, .int .i64 x.n, .int .i64 x.g, .int .i64 x.a] 127).cell 2
              clear ga hx e2 hs1
              by_cases hxf : x.n = f
              · have hb : (x.n == f) = true := by simpa using hxf
                have hbd : decide (x.n = f) = true := by simpa using hxf
                rw [if_pos hb] at hst
                have HST := Lib.hid hst
                clear hst hxf
                go_wp2_with fail
                go_roundw
                case rel => exact ⟨q + 1, by omega, by simp, by rw [HST.out]; go_num, HGA.out⟩
                case measure => simp [intOf]; omega
              · have hb : (x.n == f) = false := by simpa using hxf
                have hbd : decide (x.n = f) = false := by simpa using hxf
                rw [if_neg (by rw [hb]; simp), Nat.add_zero] at hst
                have HST := Lib.hid hst
                clear hst hxf
                go_wp2_with fail
                go_roundw
                case rel => exact ⟨q + 1, by omega, by simp, by rw [HST.out]; rfl, HGA.out⟩
                case measure => simp [intOf]; omega
            · obtain rfl : q = N := by omega
              have ht : L'.take q = L' := by rw [HN.out]; exact List.take_length
              rw [ht] at hcb ⊢
              have hcn : cntL (fun z => z == f) L' = cntD D' f n := by rw [H.out.1.p.cnt, cntPD_cnt]
              obtain ⟨s1, hs1⟩ : ∃ s1, s1 = cntL (fun z => z == f) L' := ⟨_, rfl⟩
              rw [← hs1] at hcn hcb ⊢
              have HCN := Lib.hid hcn
              clear ht m1 hcn hs1
              go_wp2_with fail
              refine (dsame_any bt br bm n D' L' _ _ HQ.out.1.p).mono ?_
              rintro e w7 ⟨rfl, g7⟩
              have H7 := Lib.hid (And.intro (HQ.out.1.gr0 g7) (HQ.out.2.1.gr0 g7))
              clear HQ g7
              have a2 := H7.out.2.x.cell 2
              go_wp2_with fail
              refine (count_is bt br n s1 f D' w7 H7.out.1.p.tabs HCN.out).mono ?_
              rintro e w8 ⟨rfl, g8⟩
              have H8 := Lib.hid (H7.out.1.gr0 g8)
              clear H7 g8 a2
              go_wp2_with fail
              go_roundw
              case rel => exact ⟨k + 1, D', L', _, by omega, by simp, H8.out⟩
              case measure => simp [intOf]; omega
    · obtain rfl : k = M := by omega
      have hfin := Lib.hid HP.out.gr
      go_wp2_with fail
      go_ret
      exact ⟨rfl, hfin.out⟩

end Go.Proofs.Ytpkhfdcokcchdaa
