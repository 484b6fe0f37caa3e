/-
  The walk of AllocBack.
-/
import Derived.Test.YtpkhfdcokcchdaaAlN
import Derived.Test.YtpkhfdcokcchdaaAlS
namespace Go.Proofs.Ytpkhfdcokcchdaa
open Go.RowKit

/-- A set in a variable that is written: the far part speaks of a list with an extent alone. -/
structure VBox (w W : World) (Bt N : Nat) (l : List (Nat × Nat)) (ao : Option Addr) (cap : Nat) : Prop where
  box : Holds W Bt #[.int .i64 N, .slice ao l.length cap] 25
  set : SetIs W N l ao cap
  gr : Gr [Bt] w W
  far : ∀ (i : Nat) (e : Nat × Nat), l[i]? = some e → ∀ k o, ao = some ⟨k, o, none⟩ → k ≠ Bt
theorem VBox.gr0 {w W W' : World} {Bt N : Nat} {l : List (Nat × Nat)} {ao : Option Addr} {cap : Nat} (h : VBox w W Bt N l ao cap) (g : Gr [] W W') : VBox w W' Bt N l ao cap := ⟨h.box.gr0 g, h.set.gr0 g, h.gr.next0 g, h.far⟩
theorem VBox.put {w W : World} {Bt N : Nat} {l l' : List (Nat × Nat)} {ao ao' : Option Addr} {cap cap' : Nat} (h : VBox w W Bt N l ao cap) (hs : SetIs W N l' ao' cap') (hf : ∀ k o, ao' = some ⟨k, o, none⟩ → k ≠ Bt) :
    VBox w ((W.setCell ⟨Bt, 0, none⟩ (.int .i64 N)).setCell ⟨Bt, 1, none⟩ (.slice ao' l'.length cap')) Bt N l' ao' cap' := by
  have g : Gr [Bt] W ((W.setCell ⟨Bt, 0, none⟩ (.int .i64 N)).setCell ⟨Bt, 1, none⟩ (.slice ao' l'.length cap')) := ((Gr.refl _ _).setCell (p := ⟨Bt, 0, none⟩) (.inl (by simp)) _).setCell (p := ⟨Bt, 1, none⟩) (.inl (by simp)) _
  exact ⟨(h.box.set 0 _).set 1 _, ⟨hs.runs, hs.hi, hs.rd.gr g (fun k o e => by simpa using hf k o e), hs.cap1, hs.cap2, hs.none⟩, (h.gr.setCell (p := ⟨Bt, 0, none⟩) (.inl (by simp)) _).setCell (p := ⟨Bt, 1, none⟩) (.inl (by simp)) _, fun _ _ _ k o e => hf k o e⟩

/-- What has been given back of t, of the first k runs. -/
structure GBox (w W : World) (Bt N k : Nat) (l' t cur : List (Nat × Nat)) (ao : Option Addr) (cap : Nat) : Prop where
  v : VBox w W Bt N cur ao cap
  cov : ∀ b, covB cur b = (covB l' b || covB (t.take k) b)

theorem afree_40 (m s : Nat) (l : List (Nat × Nat)) (ao : Option Addr) (cap : Nat) (w : World) (h : SetIs w 40 l ao cap ∧ m = l.length ∧ s = sumL l) :
    Calls Try.prog 24 #[.agg #[.int .i64 40, .slice ao m cap]] w fun e w' => e = .returned (.int .i64 s) ∧ Below w.heap.size w w' := by
  obtain ⟨h1, rfl, rfl⟩ := h
  exact afree_bel 40 l ao cap w h1

theorem alist_40 (m : Nat) (l : List (Nat × Nat)) (ao : Option Addr) (cap : Nat) (w : World) (h : SetIs w 40 l ao cap) (hm : m = l.length) :
    Calls Try.prog 26 #[.agg #[.int .i64 40, .slice ao m cap]] w fun e w' => ∃ ao' cap', e = .returned (.slice ao' m cap') ∧ Sl2 w' (.slice ao' m cap') (zl l) ∧ Gr [] w w' := by
  subst hm
  exact alist_any 40 l ao cap w h

set_option maxHeartbeats 8000000 in
set_option maxRecDepth 20000 in
theorem back_any (ao0 : Option Addr) (n cap0 nb : Nat) (hnb : nb < 256) (q : Nat → Nat) (w : World) (hq : ∀ k, k < n → ∃ b o, ao0 = some ⟨b, o, none⟩ ∧ b < w.heap.size ∧ w.cell? ⟨b, o + k, none⟩ = some (.int .u8 (q k : Int)) ∧ q k < 256) (hn : ao0 = none → cap0 = 0) (hcap : n ≤ cap0) (hmax : cap0 ≤ maxLen) :
    Calls Try.prog 5 #[.slice ao0 n cap0, .int .u8 nb] w fun e w' => e = .returned (.bool true) ∧ Below w.heap.size w w' := by
  obtain ⟨M, hM⟩ : ∃ M, M = min n 30 := ⟨_, rfl⟩
  have hmn := minIs Try.prog n M 30 30 rfl hM
  have hM1 : M ≤ n := by omega
  have hM2 : M ≤ 30 := by omega
  have HQ := Lib.hid hq
  unfold maxLen at hmax
  clear hq hM
  have heq := aeqIn
  have hgr := fun (W : World) (op : BinOp) (x y : Operand) (xs ys : Array Value) => run_eqGuard_agg (P := Try.prog) (w := W) op 35 x y xs ys aguard
  obtain ⟨dn, hdn⟩ : ∃ dn, dn = nb % 40 := ⟨_, rfl⟩
  have hdn1 : (nb : Int) % 40 = (dn : Int) := by omega
  have hdn2 : dn < 40 := by omega
  obtain ⟨kk, hkk⟩ : ∃ kk, kk = 1 + dn := ⟨_, rfl⟩
  have hkk0 : IntKind.i64.wrap (1 + (dn : Int)) = (kk : Int) := by rw [IntWalk.i64_in _ (by omega)]; omega
  have hkk2 : (1 : Int) + (dn : Int) = (kk : Int) := by omega
  have hwdn : IntKind.i64.wrap (dn : Int) = (dn : Int) := IntWalk.i64_in _ (by omega)
  have hkk1 : 1 ≤ kk := by omega
  have hkk3 : kk ≤ 40 := by omega
  have HKK := Lib.hid (And.intro hdn hkk)
  clear hdn hkk
  cases ao0 with
  | none =>
    obtain rfl := hn rfl
    obtain rfl : n = 0 := by omega
    obtain rfl : M = 0 := by omega
    go_enter Try.func5, Try.ntmps5
    go_wp2_with fail
    refine (anew_runs 40 _ (by decide) (by decide)).mono ?_
    rintro e w1 ⟨ao, cap, rfl, s1, g1⟩
    have S1 : SBox w (w1.alloc (Obj.cells #[.int .i64 40, .slice ao 1 cap] 25)) w1.heap.size 40 [(0, 40)] ao cap := by
      have ga := (Gr.refl [] w1).alloc (Obj.cells #[.int .i64 40, .slice ao 1 cap] 25)
      refine ⟨Holds.new w1 _ _, s1.gr0 ga, g1.next0 ga, g1.size, fun k o e => ?_⟩
      obtain ⟨b, o', h1, h2, _⟩ := s1.at (i := 0) rfl
      rw [h1] at e
      injection e with e
      injection e with e1 e2
      omega
    clear s1 g1
    have HS1 := Lib.hid S1
    clear S1
    go_wp2_with fail
    refine (wakes14_any _).mono ?_
    rintro e w2 ⟨rfl, g2⟩
    have S2 := HS1.out.gr0 g2
    clear g2 HS1
    obtain ⟨Bs, hBs⟩ : ∃ Bs, w1.heap.size = Bs := ⟨_, rfl⟩
    rw [hBs] at S2 ⊢
    clear hBs
    go_wp2_with fail
    go_loopw [40] (fun i wr => ∃ (k : Nat) (l : List (Nat × Nat)) (ao : Option Addr) (cap : Nat), k ≤ 0 ∧ i = .int .i64 k ∧ SBox w wr Bs 40 l ao cap) (fun i _ => 0 - (intOf i).toNat)
    case atStart => exact ⟨0, _, _, _, by omega, rfl, S2⟩
    case round =>
      clear S2
      obtain ⟨k, l, ao, cap, hk, rfl, S⟩ := hrel
      have HS := Lib.hid S
      have c0 := S.c0
      have c1 := S.c1
      clear S
      by_cases hkM : k < 0
      · omega
      · obtain rfl : k = 0 := by omega
        have hlen := HS.out.set.len
        have hsm := HS.out.set.sum l.length
        rw [List.take_length] at hsm
        obtain ⟨s, hs⟩ : ∃ s, s = sumL l := ⟨_, rfl⟩
        rw [← hs] at hsm
        have HSM := Lib.hid hs
        clear hs
        obtain ⟨m, hm⟩ : ∃ m, m = l.length := ⟨_, rfl⟩
        rw [← hm] at c1 hlen
        have HM := Lib.hid hm
        clear hm
        by_cases hks : kk ≤ s
        · have HO := Lib.hid (takeL_ok HS.out.set.runs hkk1 (by rw [← HSM.out]; exact hks))
          obtain ⟨l', hl'⟩ : ∃ x, x = (takeL l kk).1 := ⟨_, rfl⟩
          obtain ⟨t, ht⟩ : ∃ x, x = (takeL l kk).2 := ⟨_, rfl⟩
          rw [← hl', ← ht] at HO
          have HTK := Lib.hid (show takeL l kk = (l', t) from Prod.ext hl'.symm ht.symm)
          clear hl' ht
          obtain ⟨m1, hm1⟩ : ∃ m1, m1 = l'.length := ⟨_, rfl⟩
          obtain ⟨m2, hm2⟩ : ∃ m2, m2 = t.length := ⟨_, rfl⟩
          have HT := Lib.hid (atake_is 40 l l' t ao cap kk m1 m2 wr HS.out.set hkk1 (by rw [← HSM.out]; exact hks) HTK.out hm1 hm2)
          rw [← HM.out] at HT
          have HM12 := Lib.hid (And.intro hm1 hm2)
          have hm2l : m2 ≤ 40 := by rw [hm2]; have := len_le HO.out.taken; have := sumL_le HO.out.taken; omega
          clear hm1 hm2
          go_wp2_with fail
          refine HT.out.mono ?_
          rintro e w3 ⟨ao6, cap6, a2, c2, rfl, s6, t6, g6⟩
          have ga := (Gr.refl [] w3).alloc (Obj.cells #[.int .i64 40, .slice ao6 m1 cap6] 25)
          have HY := Lib.hid (Holds.new w3 #[.int .i64 40, .slice ao6 m1 cap6] 25)
          have HSG := Lib.hid (And.intro ((HS.out.gr0 g6).gr0 ga) (And.intro (s6.gr0 ga) (And.intro (sl2_rd (t6.gr0 ga)) (And.intro (HS.out.gr0 g6) (And.intro s6 (sl2_rd t6))))))
          clear HS HT c0 c1 s6 t6 g6 ga
          go_wp2_with fail
          have c0 := kp_cell HSG.out.1.c0
          have c1 := kp_cell HSG.out.1.c1
          have y0 := kp_cell (HY.out.cell 0)
          have y1 := kp_cell (HY.out.cell 1)
          rw [← HM.out] at c1
          obtain ⟨Bt, hBt⟩ : ∃ Bt, w3.heap.size = Bt := ⟨_, rfl⟩
          have HBT := Lib.hid hBt
          rw [hBt] at HY y0 y1 ⊢
          generalize hw4 : w3.alloc (Obj.cells #[.int .i64 40, .slice ao6 m1 cap6] 25) = w4 at *
          have HW4 := Lib.hid hw4
          clear hw4 hBt
          have hne := kp_ne w4
          obtain ⟨s1, hs1⟩ : ∃ s1, s1 = sumL l' := ⟨_, rfl⟩
          have hs2 : s1 + kk = s := by rw [hs1]; have := HO.out.left; have := HSM.out; omega
          have hws : IntKind.i64.wrap ((s : Int) - (kk : Int)) = (s1 : Int) := by rw [IntWalk.i64_in _ (by omega)]; omega
          have hws2 : (s : Int) - (kk : Int) = (s1 : Int) := by omega
          have HF1 := Lib.hid (show ∀ x : Cls (Kp w4), SetIs x.w 40 l ao cap ∧ m = l.length ∧ s = sumL l from fun x => ⟨HSG.out.1.set.gr0 (.ofBelow x.h), HM.out, HSM.out⟩)
          have HF2 := Lib.hid (show ∀ x : Cls (Kp w4), SetIs x.w 40 l' ao6 cap6 ∧ m1 = l'.length ∧ s1 = sumL l' from fun x => ⟨HSG.out.2.1.gr0 (.ofBelow x.h), HM12.out.1, hs1⟩)
          have HS1 := Lib.hid hs1
          clear hs1
          refine wp_region_kp (by kernel_rfl) (by kernel_rfl) ?_
          repeat (go_big_quiet_step ((rename_i x; first
            | with_reducible exact kp_call x (afree_40 m s l ao cap _ (HF1.out x))
            | with_reducible exact kp_call x (afree_40 m1 s1 l' ao6 cap6 _ (HF2.out x)))))
          skip
          with_reducible refine wpQuiet_nil ?_
          rintro _ ⟨y, rfl⟩
          have g5 : Gr [] w4 y.w := .ofBelow y.h
          have HS5 := Lib.hid (And.intro (HSG.out.1.gr0 g5) (And.intro (HSG.out.2.1.gr0 g5) (And.intro (HSG.out.2.2.1.gr0 g5) (And.intro (HY.out.gr0 g5) g5))))
          clear c0 c1 y0 y1 hne HF1 HF2 g5 hws hws2
          generalize y.w = w5 at *
          clear y
          go_wp2_with fail
          go_loopw [15, 92] (fun sm i wr => ∃ k : Nat, k ≤ m2 ∧ i = .int .i64 k ∧ sm = .int .i64 (sumL (t.take k) : Nat) ∧ Gr [] w5 wr) (fun _ i _ => m2 - (intOf i).toNat)
          case atStart => exact ⟨0, by omega, rfl, by simp [sumL], Gr.refl _ _⟩
          case round =>
            obtain ⟨k, hk, rfl, rfl, G⟩ := hrel
            by_cases hkm : k < m2
            · obtain ⟨x, hx⟩ : ∃ x, t[k]? = some x := ⟨_, List.getElem?_eq_getElem (by have := HM12.out.2; omega)⟩
              have hxm := runs_mem HO.out.taken (List.mem_of_getElem? hx)
              obtain ⟨b2, o2, e2, hb2, p1, p2⟩ := (HS5.out.2.2.1.gr0 G) k ((x.1 : Int), (x.2 : Int)) (by rw [zl_get, hx]; rfl)
              simp only at p1 p2
              subst e2
              obtain ⟨q, hq⟩ : ∃ q, q = sumL (t.take k) := ⟨_, rfl⟩
              obtain ⟨q', hq'⟩ : ∃ q', q' = sumL (t.take (k + 1)) := ⟨_, rfl⟩
              rw [← hq]
              have hqq : q' = q + x.2 := by rw [hq, hq']; have := sumL_take_succ hx; omega
              have hq40 : q ≤ 40 := by rw [hq]; have := sumL_take_le t k; have := sumL_le HO.out.taken; omega
              have hwq : IntKind.i64.wrap ((q : Int) + (x.2 : Int)) = (q' : Int) := by rw [IntWalk.i64_in _ (by omega)]; omega
              have hwq2 : (q : Int) + (x.2 : Int) = (q' : Int) := by omega
              have HX := Lib.hid (Holds.new wr #[.int .i64 (x.1 : Int), .int .i64 (x.2 : Int)] 35)
              have HG := Lib.hid (G.alloc (Obj.cells #[.int .i64 (x.1 : Int), .int .i64 (x.2 : Int)] 35))
              have x0 := HX.out.cell 0
              have x1 := HX.out.cell 1
              have HQ := Lib.hid (And.intro hx hq')
              clear hx hq hq' hqq G hb2
              go_wp2_with fail
              obtain ⟨X, hX⟩ : ∃ X, wr.heap.size = X := ⟨_, rfl⟩
              rw [hX] at HX x0 x1 ⊢
              clear hX
              generalize wr.alloc (Obj.cells #[.int .i64 (x.1 : Int), .int .i64 (x.2 : Int)] 35) = w6 at *
              clear x0 x1
              go_loopw [18] (fun b wi => ∃ j : Nat, j ≤ x.2 ∧ b = .int .i64 ((x.1 + j : Nat) : Int) ∧ Gr [] w6 wi) (fun b _ => 40 - (intOf b).toNat)
              case atStart => exact ⟨0, Nat.zero_le _, by simp, Gr.refl _ _⟩
              case round =>
                obtain ⟨j, hj, rfl, Gi⟩ := hrel
                have G6 : Gr [] w5 wr := HG.out.next0 Gi
                have S6 := HS5.out.1.gr0 G6
                have T6 := HS5.out.2.1.gr0 G6
                have Y6 := HS5.out.2.2.2.1.gr0 G6
                have HX6 := Lib.hid (HX.out.gr0 Gi)
                have HI := Lib.hid (And.intro S6 (And.intro T6 (And.intro Y6 (And.intro Gi G6))))
                have c0 := S6.c0
                have c1 := S6.c1
                have y0 := Y6.cell 0
                have y1 := Y6.cell 1
                have x0 := HX6.out.cell 0
                have x1 := HX6.out.cell 1
                rw [← HM.out] at c1
                have hwx : IntKind.i64.wrap ((x.1 : Int) + (x.2 : Int)) = (x.1 : Int) + (x.2 : Int) := IntWalk.i64_in _ (by omega)
                obtain ⟨bb, hbb⟩ : ∃ bb, bb = x.1 + j := ⟨_, rfl⟩
                rw [← hbb]
                clear S6 T6 Y6 Gi G6
                by_cases hjx : j < x.2
                · have hd1 : (bb : Int) < (x.1 : Int) + (x.2 : Int) := by omega
                  have hd2 : (bb : Int) < 40 := by omega
                  have hct : covB t bb = true := by
                    rw [covB, List.any_eq_true]
                    exact ⟨x, List.mem_of_getElem? HQ.out.1, by simp; omega⟩
                  have HH1 := Lib.hid (fun (W : World) (g : Gr [] wr W) => ahas_any 40 l ao cap (bb : Int) W (HI.out.1.set.gr0 g))
                  have HH2 := Lib.hid (fun (W : World) (g : Gr [] wr W) => ahas_any 40 l' ao6 cap6 (bb : Int) W (HI.out.2.1.gr0 g))
                  rw [hasB_nat HI.out.1.set.runs, HO.out.cov, hct, Bool.or_true, ← HM.out] at HH1
                  rw [hasB_nat HI.out.2.1.runs, HO.out.apart _ hct, ← HM12.out.1] at HH2
                  have HBB := Lib.hid (And.intro hbb hjx)
                  clear hct hbb
                  go_wp2_with fail
                  refine (HH1.out _ (Gr.refl _ _)).mono ?_
                  rintro e w7 ⟨rfl, g7⟩
                  clear c0 c1 y0 y1 x0 x1
                  have y0 := (HI.out.2.2.1.gr0 g7).cell 0
                  have y1 := (HI.out.2.2.1.gr0 g7).cell 1
                  have HG7 := Lib.hid g7
                  clear g7
                  go_wp2_with fail
                  refine (HH2.out _ HG7.out).mono ?_
                  rintro e w8 ⟨rfl, g8⟩
                  have HG8 := Lib.hid ((HI.out.2.2.2.1.next0 HG7.out).next0 g8)
                  clear y0 y1 g8 HG7 HH1 HH2
                  have hwb : IntKind.i64.wrap ((bb : Int) + 1) = (bb : Int) + 1 := IntWalk.i64_in _ (by omega)
                  go_wp2_with fail
                  go_roundw
                  case rel => exact ⟨j + 1, by omega, by have := HBB.out.1; go_num, HG8.out⟩
                  case measure => simp [intOf]; omega
                · have hd1 : ¬ (bb : Int) < (x.1 : Int) + (x.2 : Int) := by omega
                  have HI2 := Lib.hid HI.out.2.2.2.2
                  clear hbb
                  go_wp2_with fail
                  go_roundw
                  case rel => exact ⟨k + 1, by omega, by go_num, by rw [← HQ.out.2], HI2.out⟩
                  case measure => simp [intOf]; omega
            · obtain rfl : k = m2 := by omega
              have hsum : sumL (t.take k) = kk := by rw [List.take_of_length_le (by have := HM12.out.2; omega)]; exact HO.out.sum
              rw [hsum]
              clear hsum
              have g34 : Gr [] w3 w4 := by
                have := (Gr.refl [] w3).alloc (Obj.cells #[.int .i64 40, .slice ao6 m1 cap6] 25)
                rwa [HW4.out] at this
              have V : GBox w3 wr Bt 40 0 l' t l' ao6 cap6 := by
                refine ⟨⟨?_, HS5.out.2.1.gr0 G, ((g34.next0 HS5.out.2.2.2.2).next0 G).of0, fun i e hi b o hb => ?_⟩, fun b => by simp [covB]⟩
                · have := HS5.out.2.2.2.1.gr0 G
                  rwa [HM12.out.1] at this
                · obtain ⟨b', o', h1, h2, _⟩ := HSG.out.2.2.2.2.1.at hi
                  rw [h1] at hb
                  injection hb with hb
                  injection hb with e1
                  have := HBT.out
                  omega
              have HV := Lib.hid V
              clear V g34 G
              go_wp2_with fail
              go_loopw [127, 14] (fun i f wr => ∃ (k' : Nat) (cur : List (Nat × Nat)) (aoC : Option Addr) (capC : Nat), k' ≤ k ∧ i = .int .i64 k' ∧ f = .int .i64 0 ∧ GBox w3 wr Bt 40 k' l' t cur aoC capC) (fun i _ _ => k - (intOf i).toNat)
              case atStart => exact ⟨0, _, _, _, by omega, rfl, rfl, HV.out⟩
              case round =>
                obtain ⟨k', cur, aoC, capC, hk', rfl, rfl, B⟩ := hrel
                have HB := Lib.hid B
                clear B
                by_cases hkm : k' < k
                · obtain ⟨x, hx⟩ : ∃ x, t[k']? = some x := ⟨_, List.getElem?_eq_getElem (by have := HM12.out.2; omega)⟩
                  obtain ⟨c', hgv, hrc, hcc⟩ := give_back HO.out HB.out.v.set.runs HB.out.cov hx
                  have hxm := runs_mem HO.out.taken (List.mem_of_getElem? hx)
                  have g0 : Gr [] w3 wr := (Gr.refl [] w3).nextN HB.out.v.gr (fun y hy => by simp at hy; subst hy; exact .inr (by have := HBT.out; omega))
                  obtain ⟨b2, o2, e2, hb2, p1, p2⟩ := (HSG.out.2.2.2.2.2.gr0 g0) k' ((x.1 : Int), (x.2 : Int)) (by rw [zl_get, hx]; rfl)
                  simp only at p1 p2
                  subst e2
                  have ga := (Gr.refl [] wr).alloc (Obj.cells #[.int .i64 (x.1 : Int), .int .i64 (x.2 : Int)] 35)
                  have HX := Lib.hid (Holds.new wr #[.int .i64 (x.1 : Int), .int .i64 (x.2 : Int)] 35)
                  have HV3 := Lib.hid (HB.out.v.gr0 ga)
                  have c0 := HV3.out.box.cell 0
                  have c1 := HV3.out.box.cell 1
                  have x0 := HX.out.cell 0
                  have x1 := HX.out.cell 1
                  have HG := Lib.hid (fun (W : World) (g : Gr [] wr W) => agive_some 40 cur c' aoC capC x.1 x.2 W (HB.out.v.set.gr0 g) (by unfold okE; omega) hgv)
                  have HCC := Lib.hid hcc
                  have HGA := Lib.hid ga
                  clear hx hgv hrc hcc g0 hb2 ga
                  go_wp2_with fail
                  refine (HG.out _ HGA.out).mono ?_
                  rintro e w7 ⟨ao', cap', rfl, s7, g7, h7⟩
                  have V7 := HV3.out.gr0 g7
                  have hfar : ∀ k o, ao' = some ⟨k, o, none⟩ → k ≠ Bt := fun k o e => by have h8 := h7 k o e; have := HB.out.v.box.lt; have := HGA.out.size; omega
                  have HE := Lib.hid (V7.put s7 hfar)
                  have f0 := V7.box.frozen 0
                  have f1 := V7.box.frozen 1
                  clear c0 c1 x0 x1
                  have c0 := V7.box.cell 0
                  have c1 := V7.box.cell 1
                  clear s7 g7 h7 hfar V7 p1 p2
                  go_wp2_with fail
                  go_roundw
                  case rel => exact ⟨k' + 1, _, _, _, by omega, by go_num, rfl, ⟨HE.out, HCC.out⟩⟩
                  case measure => simp [intOf]; omega
                · obtain rfl : k' = k := by omega
                  have hcl : cur = l := given_back HO.out HSG.out.2.2.2.1.set.runs HB.out.v.set.runs (fun b => by rw [← HM12.out.2]; exact HB.out.cov b)
                  have V : VBox w3 wr Bt 40 l aoC capC := by rw [← hcl]; exact HB.out.v
                  have g0 : Gr [] w3 wr := (Gr.refl [] w3).nextN V.gr (fun y hy => by simp at hy; subst hy; exact .inr (by have := HBT.out; omega))
                  have HS6 := Lib.hid (And.intro (HSG.out.2.2.2.1.gr0 g0) V)
                  clear hcl V g0
                  have HCK := Lib.hid (fun (W : World) (g : Gr [] wr W) => show W.cell? ⟨Bs, 0, none⟩ = some (.int .i64 40) ∧ W.cell? ⟨Bs, 1, none⟩ = some (.slice ao m cap) ∧ W.cell? ⟨Bt, 0, none⟩ = some (.int .i64 40) ∧ W.cell? ⟨Bt, 1, none⟩ = some (.slice aoC m capC) from
                    ⟨(HS6.out.1.gr0 g).c0, by rw [HM.out]; exact (HS6.out.1.gr0 g).c1, (HS6.out.2.gr0 g).box.cell 0, by rw [HM.out]; exact (HS6.out.2.gr0 g).box.cell 1⟩)
                  have HL1 := Lib.hid (fun (W : World) (g : Gr [] wr W) => alist_40 m l ao cap W (HS6.out.1.set.gr0 g) HM.out)
                  have HL2 := Lib.hid (fun (W : World) (g : Gr [] wr W) => alist_40 m l aoC capC W (HS6.out.2.set.gr0 g) HM.out)
                  have HS0 : wr.drew.cell? ⟨Bs, 0, none⟩ = some (.int .i64 40) ∧ wr.drew.cell? ⟨Bs, 1, none⟩ = some (.slice ao m cap) ∧ wr.drew.cell? ⟨Bt, 0, none⟩ = some (.int .i64 40) ∧ wr.drew.cell? ⟨Bt, 1, none⟩ = some (.slice aoC m capC) := HCK.out _ ((Gr.refl [] wr).drew)
                  go_wp2_with fail
                  go_region_held3 (fun w' : World => w'.cell? ⟨Bs, 0, none⟩ = some (.int .i64 40) ∧ w'.cell? ⟨Bs, 1, none⟩ = some (.slice ao m cap) ∧ w'.cell? ⟨Bt, 0, none⟩ = some (.int .i64 40) ∧ w'.cell? ⟨Bt, 1, none⟩ = some (.slice aoC m capC)) (first | assumption | go_keep) ((first
                    | (go_at_call 26; (with_reducible refine (HL1.out _ ((Gr.refl [] wr).drew)).mono ?_); rintro e w5 ⟨ao7, cap7, rfl, q5, g5⟩; have s5 := HCK.out _ (((Gr.refl [] wr).drew).trans g5); have H5 := Lib.hid (And.intro q5 (((Gr.refl [] wr).drew).trans g5)); clear q5 g5)
                    | (go_at_call 26; (with_reducible refine (HL2.out _ H5.out.2).mono ?_); rintro e w6 ⟨ao8, cap8, rfl, q6, g6⟩; have s6 := HCK.out _ (H5.out.2.trans g6); have H6 := Lib.hid (And.intro q6 (H5.out.2.trans g6)); have H7 := Lib.hid (H5.out.1.gr0 g6); clear q6 g6)))
                  go_wp2_with fail
                  have HS7 := Lib.hid (And.intro (sl2_rd H7.out) (And.intro (sl2_rd H6.out.1) (HS6.out.1.gr.next0 H6.out.2)))
                  clear HS0 s5 s6
                  go_loopw [156] (fun i wr => ∃ k : Nat, k ≤ m ∧ i = .int .i64 k ∧ Gr [] w6 wr) (fun i _ => m - (intOf i).toNat)
                  case atStart => exact ⟨0, by omega, rfl, Gr.refl _ _⟩
                  case round =>
                    obtain ⟨j, hj, rfl, G⟩ := hrel
                    have HG := Lib.hid G
                    clear G
                    by_cases hjm : j < m
                    · obtain ⟨x, hx⟩ : ∃ x, (zl l)[j]? = some x := ⟨_, List.getElem?_eq_getElem (by rw [zl_len]; have := HM.out; omega)⟩
                      obtain ⟨b2, o2, e2, hb2, p1, p2⟩ := (HS7.out.1.gr0 HG.out) j x hx
                      obtain ⟨b3, o3, e3, hb3, p3, p4⟩ := (HS7.out.2.1.gr0 HG.out) j x hx
                      subst e2 e3
                      have q1 := kp_cell p1
                      have q2 := kp_cell p2
                      have q3 := kp_cell p3
                      have q4 := kp_cell p4
                      have hne := kp_ne wr
                      clear hx p1 p2 p3 p4 hb2 hb3
                      go_wp2_with fail
                      refine wp_region_kp (by kernel_rfl) (by kernel_rfl) ?_
                      repeat (go_big_quiet_step (fail))
                      with_reducible refine wpQuiet_nil ?_
                      rintro _ ⟨y, rfl⟩
                      have HE := Lib.hid (HG.out.nextB y.h)
                      clear q1 q2 q3 q4 hne
                      go_wp2
                      go_roundw
                      case rel => exact ⟨j + 1, by omega, by go_num, HE.out⟩
                      case measure => simp [intOf]; omega
                    · obtain rfl : j = m := by omega
                      have HE := Lib.hid (HS7.out.2.2.next0 HG.out)
                      go_wp2_with fail
                      go_ret
                      exact ⟨rfl, HE.out.below0⟩
        · have HT := Lib.hid (atake_no 40 l ao cap (kk : Int) wr HS.out.set (.inr (by rw [← HSM.out]; omega)))
          rw [if_neg (by omega), ← HM.out] at HT
          go_wp2_with fail
          refine HT.out.mono ?_
          rintro e w3 ⟨rfl, g3⟩
          have ga := (Gr.refl [] w3).alloc (Obj.cells #[.int .i64 0, .slice none 0 0] 25)
          have S3 := (HS.out.gr0 g3).gr0 ga
          clear c0 c1 g3 ga HT
          have c0 := S3.c0
          have c1 := S3.c1
          rw [← HM.out] at c1
          have HF := Lib.hid (afree_any 40 l ao cap _ S3.set)
          rw [← HM.out, ← HSM.out] at HF
          have HE := Lib.hid S3.gr
          clear S3 HS
          have hlt : (s : Int) < (kk : Int) := by omega
          go_wp2_with fail
          refine HF.out.mono ?_
          rintro e w4 ⟨rfl, g4⟩
          have HE2 := Lib.hid (HE.out.next0 g4)
          clear g4 c0 c1
          go_wp2_with fail
          go_ret
          exact ⟨rfl, HE2.out.below0⟩

  | some a =>
    go_enter Try.func5, Try.ntmps5
    go_wp2_with fail
    refine (anew_runs 40 _ (by decide) (by decide)).mono ?_
    rintro e w1 ⟨ao, cap, rfl, s1, g1⟩
    have S1 : SBox w (w1.alloc (Obj.cells #[.int .i64 40, .slice ao 1 cap] 25)) w1.heap.size 40 [(0, 40)] ao cap := by
      have ga := (Gr.refl [] w1).alloc (Obj.cells #[.int .i64 40, .slice ao 1 cap] 25)
      refine ⟨Holds.new w1 _ _, s1.gr0 ga, g1.next0 ga, g1.size, fun k o e => ?_⟩
      obtain ⟨b, o', h1, h2, _⟩ := s1.at (i := 0) rfl
      rw [h1] at e
      injection e with e
      injection e with e1 e2
      omega
    clear s1 g1
    have HS1 := Lib.hid S1
    clear S1
    go_wp2_with fail
    refine (wakes14_any _).mono ?_
    rintro e w2 ⟨rfl, g2⟩
    have S2 := HS1.out.gr0 g2
    clear g2 HS1
    obtain ⟨Bs, hBs⟩ : ∃ Bs, w1.heap.size = Bs := ⟨_, rfl⟩
    rw [hBs] at S2 ⊢
    clear hBs
    go_wp2_with fail
    go_loopw [40] (fun i wr => ∃ (k : Nat) (l : List (Nat × Nat)) (ao : Option Addr) (cap : Nat), k ≤ M ∧ i = .int .i64 k ∧ SBox w wr Bs 40 l ao cap) (fun i _ => M - (intOf i).toNat)
    case atStart => exact ⟨0, _, _, _, by omega, rfl, S2⟩
    case round =>
      clear S2
      obtain ⟨k, l, ao, cap, hk, rfl, S⟩ := hrel
      have HS := Lib.hid S
      have c0 := S.c0
      have c1 := S.c1
      clear S
      by_cases hkM : k < M
      · obtain ⟨b, o, hao, hb, hc, hq⟩ := HQ.out k (by omega)
        injection hao with hao
        subst hao
        obtain ⟨x, hx⟩ : ∃ x, x = q k := ⟨_, rfl⟩
        rw [← hx] at hc hq
        have hcl : wr.cell? ⟨b, o + k, none⟩ = some (.int .u8 (x : Int)) := by rw [HS.out.gr.cell0 hb]; exact hc
        obtain ⟨d, hd⟩ : ∃ d, d = x % 40 := ⟨_, rfl⟩
        have hdm : (x : Int) % 40 = (d : Int) := by omega
        have hd40 : d < 40 := by omega
        clear hc hx hb hd
        cases hu : useL l d 1 with
        | none =>
          have HU := Lib.hid (ause_none 40 l ao cap d 1 wr HS.out.set (by unfold okE; omega) hu)
          clear hu
          go_wp2_with fail
          refine HU.out.mono ?_
          rintro e w3 ⟨rfl, g3⟩
          have HE := Lib.hid ((HS.out.gr0 g3).gr0 ((Gr.refl [] w3).alloc (Obj.cells #[.int .i64 0, .slice none 0 0] 25)))
          clear g3 c0 c1 hcl
          go_wp2
          go_roundw
          case rel => exact ⟨k + 1, _, _, _, by omega, by go_num, HE.out⟩
          case measure => simp [intOf]; omega
        | some l' =>
          have HU := Lib.hid (ause_some 40 l l' ao cap d 1 wr HS.out.set (by unfold okE; omega) hu)
          clear hu
          go_wp2_with fail
          refine HU.out.mono ?_
          rintro e w3 ⟨ao', cap', rfl, s3, g3, h3⟩
          have ga := (Gr.refl [] w3).alloc (Obj.cells #[.int .i64 40, .slice ao' l'.length cap'] 25)
          have S4 := (HS.out.gr0 g3).gr0 ga
          have Y := Holds.new w3 #[.int .i64 40, .slice ao' l'.length cap'] 25
          have hfar : ∀ k o, ao' = some ⟨k, o, none⟩ → k ≠ Bs := fun k o e => by have := h3 k o e; have := HS.out.box.lt; omega
          have HE := Lib.hid (S4.put (s3.gr0 ga) hfar)
          have c0 := S4.c0
          have c1 := S4.c1
          have f0 := S4.box.frozen 0
          have f1 := S4.box.frozen 1
          have y0 : (w3.alloc (Obj.cells #[.int .i64 40, .slice ao' l'.length cap'] 25)).cell? ⟨w3.heap.size, 0, none⟩ = some (.int .i64 40) := Y.cell 0
          have y1 : (w3.alloc (Obj.cells #[.int .i64 40, .slice ao' l'.length cap'] 25)).cell? ⟨w3.heap.size, 1, none⟩ = some (.slice ao' l'.length cap') := Y.cell 1
          clear s3 g3 h3 ga S4 Y hfar hcl
          go_wp2
          go_roundw
          case rel => exact ⟨k + 1, _, _, _, by omega, by go_num, HE.out⟩
          case measure => simp [intOf]; omega
      · obtain rfl : k = M := by omega
        have hlen := HS.out.set.len
        have hsm := HS.out.set.sum l.length
        rw [List.take_length] at hsm
        obtain ⟨s, hs⟩ : ∃ s, s = sumL l := ⟨_, rfl⟩
        rw [← hs] at hsm
        have HSM := Lib.hid hs
        clear hs
        obtain ⟨m, hm⟩ : ∃ m, m = l.length := ⟨_, rfl⟩
        rw [← hm] at c1 hlen
        have HM := Lib.hid hm
        clear hm
        by_cases hks : kk ≤ s
        · have HO := Lib.hid (takeL_ok HS.out.set.runs hkk1 (by rw [← HSM.out]; exact hks))
          obtain ⟨l', hl'⟩ : ∃ x, x = (takeL l kk).1 := ⟨_, rfl⟩
          obtain ⟨t, ht⟩ : ∃ x, x = (takeL l kk).2 := ⟨_, rfl⟩
          rw [← hl', ← ht] at HO
          have HTK := Lib.hid (show takeL l kk = (l', t) from Prod.ext hl'.symm ht.symm)
          clear hl' ht
          obtain ⟨m1, hm1⟩ : ∃ m1, m1 = l'.length := ⟨_, rfl⟩
          obtain ⟨m2, hm2⟩ : ∃ m2, m2 = t.length := ⟨_, rfl⟩
          have HT := Lib.hid (atake_is 40 l l' t ao cap kk m1 m2 wr HS.out.set hkk1 (by rw [← HSM.out]; exact hks) HTK.out hm1 hm2)
          rw [← HM.out] at HT
          have HM12 := Lib.hid (And.intro hm1 hm2)
          have hm2l : m2 ≤ 40 := by rw [hm2]; have := len_le HO.out.taken; have := sumL_le HO.out.taken; omega
          clear hm1 hm2
          go_wp2_with fail
          refine HT.out.mono ?_
          rintro e w3 ⟨ao6, cap6, a2, c2, rfl, s6, t6, g6⟩
          have ga := (Gr.refl [] w3).alloc (Obj.cells #[.int .i64 40, .slice ao6 m1 cap6] 25)
          have HY := Lib.hid (Holds.new w3 #[.int .i64 40, .slice ao6 m1 cap6] 25)
          have HSG := Lib.hid (And.intro ((HS.out.gr0 g6).gr0 ga) (And.intro (s6.gr0 ga) (And.intro (sl2_rd (t6.gr0 ga)) (And.intro (HS.out.gr0 g6) (And.intro s6 (sl2_rd t6))))))
          clear HS HT c0 c1 s6 t6 g6 ga
          go_wp2_with fail
          have c0 := kp_cell HSG.out.1.c0
          have c1 := kp_cell HSG.out.1.c1
          have y0 := kp_cell (HY.out.cell 0)
          have y1 := kp_cell (HY.out.cell 1)
          rw [← HM.out] at c1
          obtain ⟨Bt, hBt⟩ : ∃ Bt, w3.heap.size = Bt := ⟨_, rfl⟩
          have HBT := Lib.hid hBt
          rw [hBt] at HY y0 y1 ⊢
          generalize hw4 : w3.alloc (Obj.cells #[.int .i64 40, .slice ao6 m1 cap6] 25) = w4 at *
          have HW4 := Lib.hid hw4
          clear hw4 hBt
          have hne := kp_ne w4
          obtain ⟨s1, hs1⟩ : ∃ s1, s1 = sumL l' := ⟨_, rfl⟩
          have hs2 : s1 + kk = s := by rw [hs1]; have := HO.out.left; have := HSM.out; omega
          have hws : IntKind.i64.wrap ((s : Int) - (kk : Int)) = (s1 : Int) := by rw [IntWalk.i64_in _ (by omega)]; omega
          have hws2 : (s : Int) - (kk : Int) = (s1 : Int) := by omega
          have HF1 := Lib.hid (show ∀ x : Cls (Kp w4), SetIs x.w 40 l ao cap ∧ m = l.length ∧ s = sumL l from fun x => ⟨HSG.out.1.set.gr0 (.ofBelow x.h), HM.out, HSM.out⟩)
          have HF2 := Lib.hid (show ∀ x : Cls (Kp w4), SetIs x.w 40 l' ao6 cap6 ∧ m1 = l'.length ∧ s1 = sumL l' from fun x => ⟨HSG.out.2.1.gr0 (.ofBelow x.h), HM12.out.1, hs1⟩)
          have HS1 := Lib.hid hs1
          clear hs1
          refine wp_region_kp (by kernel_rfl) (by kernel_rfl) ?_
          repeat (go_big_quiet_step ((rename_i x; first
            | with_reducible exact kp_call x (afree_40 m s l ao cap _ (HF1.out x))
            | with_reducible exact kp_call x (afree_40 m1 s1 l' ao6 cap6 _ (HF2.out x)))))
          skip
          with_reducible refine wpQuiet_nil ?_
          rintro _ ⟨y, rfl⟩
          have g5 : Gr [] w4 y.w := .ofBelow y.h
          have HS5 := Lib.hid (And.intro (HSG.out.1.gr0 g5) (And.intro (HSG.out.2.1.gr0 g5) (And.intro (HSG.out.2.2.1.gr0 g5) (And.intro (HY.out.gr0 g5) g5))))
          clear c0 c1 y0 y1 hne HF1 HF2 g5 hws hws2
          generalize y.w = w5 at *
          clear y
          go_wp2_with fail
          go_loopw [15, 92] (fun sm i wr => ∃ k : Nat, k ≤ m2 ∧ i = .int .i64 k ∧ sm = .int .i64 (sumL (t.take k) : Nat) ∧ Gr [] w5 wr) (fun _ i _ => m2 - (intOf i).toNat)
          case atStart => exact ⟨0, by omega, rfl, by simp [sumL], Gr.refl _ _⟩
          case round =>
            obtain ⟨k, hk, rfl, rfl, G⟩ := hrel
            by_cases hkm : k < m2
            · obtain ⟨x, hx⟩ : ∃ x, t[k]? = some x := ⟨_, List.getElem?_eq_getElem (by have := HM12.out.2; omega)⟩
              have hxm := runs_mem HO.out.taken (List.mem_of_getElem? hx)
              obtain ⟨b2, o2, e2, hb2, p1, p2⟩ := (HS5.out.2.2.1.gr0 G) k ((x.1 : Int), (x.2 : Int)) (by rw [zl_get, hx]; rfl)
              simp only at p1 p2
              subst e2
              obtain ⟨q, hq⟩ : ∃ q, q = sumL (t.take k) := ⟨_, rfl⟩
              obtain ⟨q', hq'⟩ : ∃ q', q' = sumL (t.take (k + 1)) := ⟨_, rfl⟩
              rw [← hq]
              have hqq : q' = q + x.2 := by rw [hq, hq']; have := sumL_take_succ hx; omega
              have hq40 : q ≤ 40 := by rw [hq]; have := sumL_take_le t k; have := sumL_le HO.out.taken; omega
              have hwq : IntKind.i64.wrap ((q : Int) + (x.2 : Int)) = (q' : Int) := by rw [IntWalk.i64_in _ (by omega)]; omega
              have hwq2 : (q : Int) + (x.2 : Int) = (q' : Int) := by omega
              have HX := Lib.hid (Holds.new wr #[.int .i64 (x.1 : Int), .int .i64 (x.2 : Int)] 35)
              have HG := Lib.hid (G.alloc (Obj.cells #[.int .i64 (x.1 : Int), .int .i64 (x.2 : Int)] 35))
              have x0 := HX.out.cell 0
              have x1 := HX.out.cell 1
              have HQ := Lib.hid (And.intro hx hq')
              clear hx hq hq' hqq G hb2
              go_wp2_with fail
              obtain ⟨X, hX⟩ : ∃ X, wr.heap.size = X := ⟨_, rfl⟩
              rw [hX] at HX x0 x1 ⊢
              clear hX
              generalize wr.alloc (Obj.cells #[.int .i64 (x.1 : Int), .int .i64 (x.2 : Int)] 35) = w6 at *
              clear x0 x1
              go_loopw [18] (fun b wi => ∃ j : Nat, j ≤ x.2 ∧ b = .int .i64 ((x.1 + j : Nat) : Int) ∧ Gr [] w6 wi) (fun b _ => 40 - (intOf b).toNat)
              case atStart => exact ⟨0, Nat.zero_le _, by simp, Gr.refl _ _⟩
              case round =>
                obtain ⟨j, hj, rfl, Gi⟩ := hrel
                have G6 : Gr [] w5 wr := HG.out.next0 Gi
                have S6 := HS5.out.1.gr0 G6
                have T6 := HS5.out.2.1.gr0 G6
                have Y6 := HS5.out.2.2.2.1.gr0 G6
                have HX6 := Lib.hid (HX.out.gr0 Gi)
                have HI := Lib.hid (And.intro S6 (And.intro T6 (And.intro Y6 (And.intro Gi G6))))
                have c0 := S6.c0
                have c1 := S6.c1
                have y0 := Y6.cell 0
                have y1 := Y6.cell 1
                have x0 := HX6.out.cell 0
                have x1 := HX6.out.cell 1
                rw [← HM.out] at c1
                have hwx : IntKind.i64.wrap ((x.1 : Int) + (x.2 : Int)) = (x.1 : Int) + (x.2 : Int) := IntWalk.i64_in _ (by omega)
                obtain ⟨bb, hbb⟩ : ∃ bb, bb = x.1 + j := ⟨_, rfl⟩
                rw [← hbb]
                clear S6 T6 Y6 Gi G6
                by_cases hjx : j < x.2
                · have hd1 : (bb : Int) < (x.1 : Int) + (x.2 : Int) := by omega
                  have hd2 : (bb : Int) < 40 := by omega
                  have hct : covB t bb = true := by
                    rw [covB, List.any_eq_true]
                    exact ⟨x, List.mem_of_getElem? HQ.out.1, by simp; omega⟩
                  have HH1 := Lib.hid (fun (W : World) (g : Gr [] wr W) => ahas_any 40 l ao cap (bb : Int) W (HI.out.1.set.gr0 g))
                  have HH2 := Lib.hid (fun (W : World) (g : Gr [] wr W) => ahas_any 40 l' ao6 cap6 (bb : Int) W (HI.out.2.1.gr0 g))
                  rw [hasB_nat HI.out.1.set.runs, HO.out.cov, hct, Bool.or_true, ← HM.out] at HH1
                  rw [hasB_nat HI.out.2.1.runs, HO.out.apart _ hct, ← HM12.out.1] at HH2
                  have HBB := Lib.hid (And.intro hbb hjx)
                  clear hct hbb
                  go_wp2_with fail
                  refine (HH1.out _ (Gr.refl _ _)).mono ?_
                  rintro e w7 ⟨rfl, g7⟩
                  clear c0 c1 y0 y1 x0 x1
                  have y0 := (HI.out.2.2.1.gr0 g7).cell 0
                  have y1 := (HI.out.2.2.1.gr0 g7).cell 1
                  have HG7 := Lib.hid g7
                  clear g7
                  go_wp2_with fail
                  refine (HH2.out _ HG7.out).mono ?_
                  rintro e w8 ⟨rfl, g8⟩
                  have HG8 := Lib.hid ((HI.out.2.2.2.1.next0 HG7.out).next0 g8)
                  clear y0 y1 g8 HG7 HH1 HH2
                  have hwb : IntKind.i64.wrap ((bb : Int) + 1) = (bb : Int) + 1 := IntWalk.i64_in _ (by omega)
                  go_wp2_with fail
                  go_roundw
                  case rel => exact ⟨j + 1, by omega, by have := HBB.out.1; go_num, HG8.out⟩
                  case measure => simp [intOf]; omega
                · have hd1 : ¬ (bb : Int) < (x.1 : Int) + (x.2 : Int) := by omega
                  have HI2 := Lib.hid HI.out.2.2.2.2
                  clear hbb
                  go_wp2_with fail
                  go_roundw
                  case rel => exact ⟨k + 1, by omega, by go_num, by rw [← HQ.out.2], HI2.out⟩
                  case measure => simp [intOf]; omega
            · obtain rfl : k = m2 := by omega
              have hsum : sumL (t.take k) = kk := by rw [List.take_of_length_le (by have := HM12.out.2; omega)]; exact HO.out.sum
              rw [hsum]
              clear hsum
              have g34 : Gr [] w3 w4 := by
                have := (Gr.refl [] w3).alloc (Obj.cells #[.int .i64 40, .slice ao6 m1 cap6] 25)
                rwa [HW4.out] at this
              have V : GBox w3 wr Bt 40 0 l' t l' ao6 cap6 := by
                refine ⟨⟨?_, HS5.out.2.1.gr0 G, ((g34.next0 HS5.out.2.2.2.2).next0 G).of0, fun i e hi b o hb => ?_⟩, fun b => by simp [covB]⟩
                · have := HS5.out.2.2.2.1.gr0 G
                  rwa [HM12.out.1] at this
                · obtain ⟨b', o', h1, h2, _⟩ := HSG.out.2.2.2.2.1.at hi
                  rw [h1] at hb
                  injection hb with hb
                  injection hb with e1
                  have := HBT.out
                  omega
              have HV := Lib.hid V
              clear V g34 G
              go_wp2_with fail
              go_loopw [127, 14] (fun i f wr => ∃ (k' : Nat) (cur : List (Nat × Nat)) (aoC : Option Addr) (capC : Nat), k' ≤ k ∧ i = .int .i64 k' ∧ f = .int .i64 0 ∧ GBox w3 wr Bt 40 k' l' t cur aoC capC) (fun i _ _ => k - (intOf i).toNat)
              case atStart => exact ⟨0, _, _, _, by omega, rfl, rfl, HV.out⟩
              case round =>
                obtain ⟨k', cur, aoC, capC, hk', rfl, rfl, B⟩ := hrel
                have HB := Lib.hid B
                clear B
                by_cases hkm : k' < k
                · obtain ⟨x, hx⟩ : ∃ x, t[k']? = some x := ⟨_, List.getElem?_eq_getElem (by have := HM12.out.2; omega)⟩
                  obtain ⟨c', hgv, hrc, hcc⟩ := give_back HO.out HB.out.v.set.runs HB.out.cov hx
                  have hxm := runs_mem HO.out.taken (List.mem_of_getElem? hx)
                  have g0 : Gr [] w3 wr := (Gr.refl [] w3).nextN HB.out.v.gr (fun y hy => by simp at hy; subst hy; exact .inr (by have := HBT.out; omega))
                  obtain ⟨b2, o2, e2, hb2, p1, p2⟩ := (HSG.out.2.2.2.2.2.gr0 g0) k' ((x.1 : Int), (x.2 : Int)) (by rw [zl_get, hx]; rfl)
                  simp only at p1 p2
                  subst e2
                  have ga := (Gr.refl [] wr).alloc (Obj.cells #[.int .i64 (x.1 : Int), .int .i64 (x.2 : Int)] 35)
                  have HX := Lib.hid (Holds.new wr #[.int .i64 (x.1 : Int), .int .i64 (x.2 : Int)] 35)
                  have HV3 := Lib.hid (HB.out.v.gr0 ga)
                  have c0 := HV3.out.box.cell 0
                  have c1 := HV3.out.box.cell 1
                  have x0 := HX.out.cell 0
                  have x1 := HX.out.cell 1
                  have HG := Lib.hid (fun (W : World) (g : Gr [] wr W) => agive_some 40 cur c' aoC capC x.1 x.2 W (HB.out.v.set.gr0 g) (by unfold okE; omega) hgv)
                  have HCC := Lib.hid hcc
                  have HGA := Lib.hid ga
                  clear hx hgv hrc hcc g0 hb2 ga
                  go_wp2_with fail
                  refine (HG.out _ HGA.out).mono ?_
                  rintro e w7 ⟨ao', cap', rfl, s7, g7, h7⟩
                  have V7 := HV3.out.gr0 g7
                  have hfar : ∀ k o, ao' = some ⟨k, o, none⟩ → k ≠ Bt := fun k o e => by have h8 := h7 k o e; have := HB.out.v.box.lt; have := HGA.out.size; omega
                  have HE := Lib.hid (V7.put s7 hfar)
                  have f0 := V7.box.frozen 0
                  have f1 := V7.box.frozen 1
                  clear c0 c1 x0 x1
                  have c0 := V7.box.cell 0
                  have c1 := V7.box.cell 1
                  clear s7 g7 h7 hfar V7 p1 p2
                  go_wp2_with fail
                  go_roundw
                  case rel => exact ⟨k' + 1, _, _, _, by omega, by go_num, rfl, ⟨HE.out, HCC.out⟩⟩
                  case measure => simp [intOf]; omega
                · obtain rfl : k' = k := by omega
                  have hcl : cur = l := given_back HO.out HSG.out.2.2.2.1.set.runs HB.out.v.set.runs (fun b => by rw [← HM12.out.2]; exact HB.out.cov b)
                  have V : VBox w3 wr Bt 40 l aoC capC := by rw [← hcl]; exact HB.out.v
                  have g0 : Gr [] w3 wr := (Gr.refl [] w3).nextN V.gr (fun y hy => by simp at hy; subst hy; exact .inr (by have := HBT.out; omega))
                  have HS6 := Lib.hid (And.intro (HSG.out.2.2.2.1.gr0 g0) V)
                  clear hcl V g0
                  have HCK := Lib.hid (fun (W : World) (g : Gr [] wr W) => show W.cell? ⟨Bs, 0, none⟩ = some (.int .i64 40) ∧ W.cell? ⟨Bs, 1, none⟩ = some (.slice ao m cap) ∧ W.cell? ⟨Bt, 0, none⟩ = some (.int .i64 40) ∧ W.cell? ⟨Bt, 1, none⟩ = some (.slice aoC m capC) from
                    ⟨(HS6.out.1.gr0 g).c0, by rw [HM.out]; exact (HS6.out.1.gr0 g).c1, (HS6.out.2.gr0 g).box.cell 0, by rw [HM.out]; exact (HS6.out.2.gr0 g).box.cell 1⟩)
                  have HL1 := Lib.hid (fun (W : World) (g : Gr [] wr W) => alist_40 m l ao cap W (HS6.out.1.set.gr0 g) HM.out)
                  have HL2 := Lib.hid (fun (W : World) (g : Gr [] wr W) => alist_40 m l aoC capC W (HS6.out.2.set.gr0 g) HM.out)
                  have HS0 : wr.drew.cell? ⟨Bs, 0, none⟩ = some (.int .i64 40) ∧ wr.drew.cell? ⟨Bs, 1, none⟩ = some (.slice ao m cap) ∧ wr.drew.cell? ⟨Bt, 0, none⟩ = some (.int .i64 40) ∧ wr.drew.cell? ⟨Bt, 1, none⟩ = some (.slice aoC m capC) := HCK.out _ ((Gr.refl [] wr).drew)
                  go_wp2_with fail
                  go_region_held3 (fun w' : World => w'.cell? ⟨Bs, 0, none⟩ = some (.int .i64 40) ∧ w'.cell? ⟨Bs, 1, none⟩ = some (.slice ao m cap) ∧ w'.cell? ⟨Bt, 0, none⟩ = some (.int .i64 40) ∧ w'.cell? ⟨Bt, 1, none⟩ = some (.slice aoC m capC)) (first | assumption | go_keep) ((first
                    | (go_at_call 26; (with_reducible refine (HL1.out _ ((Gr.refl [] wr).drew)).mono ?_); rintro e w5 ⟨ao7, cap7, rfl, q5, g5⟩; have s5 := HCK.out _ (((Gr.refl [] wr).drew).trans g5); have H5 := Lib.hid (And.intro q5 (((Gr.refl [] wr).drew).trans g5)); clear q5 g5)
                    | (go_at_call 26; (with_reducible refine (HL2.out _ H5.out.2).mono ?_); rintro e w6 ⟨ao8, cap8, rfl, q6, g6⟩; have s6 := HCK.out _ (H5.out.2.trans g6); have H6 := Lib.hid (And.intro q6 (H5.out.2.trans g6)); have H7 := Lib.hid (H5.out.1.gr0 g6); clear q6 g6)))
                  go_wp2_with fail
                  have HS7 := Lib.hid (And.intro (sl2_rd H7.out) (And.intro (sl2_rd H6.out.1) (HS6.out.1.gr.next0 H6.out.2)))
                  clear HS0 s5 s6
                  go_loopw [156] (fun i wr => ∃ k : Nat, k ≤ m ∧ i = .int .i64 k ∧ Gr [] w6 wr) (fun i _ => m - (intOf i).toNat)
                  case atStart => exact ⟨0, by omega, rfl, Gr.refl _ _⟩
                  case round =>
                    obtain ⟨j, hj, rfl, G⟩ := hrel
                    have HG := Lib.hid G
                    clear G
                    by_cases hjm : j < m
                    · obtain ⟨x, hx⟩ : ∃ x, (zl l)[j]? = some x := ⟨_, List.getElem?_eq_getElem (by rw [zl_len]; have := HM.out; omega)⟩
                      obtain ⟨b2, o2, e2, hb2, p1, p2⟩ := (HS7.out.1.gr0 HG.out) j x hx
                      obtain ⟨b3, o3, e3, hb3, p3, p4⟩ := (HS7.out.2.1.gr0 HG.out) j x hx
                      subst e2 e3
                      have q1 := kp_cell p1
                      have q2 := kp_cell p2
                      have q3 := kp_cell p3
                      have q4 := kp_cell p4
                      have hne := kp_ne wr
                      clear hx p1 p2 p3 p4 hb2 hb3
                      go_wp2_with fail
                      refine wp_region_kp (by kernel_rfl) (by kernel_rfl) ?_
                      repeat (go_big_quiet_step (fail))
                      with_reducible refine wpQuiet_nil ?_
                      rintro _ ⟨y, rfl⟩
                      have HE := Lib.hid (HG.out.nextB y.h)
                      clear q1 q2 q3 q4 hne
                      go_wp2
                      go_roundw
                      case rel => exact ⟨j + 1, by omega, by go_num, HE.out⟩
                      case measure => simp [intOf]; omega
                    · obtain rfl : j = m := by omega
                      have HE := Lib.hid (HS7.out.2.2.next0 HG.out)
                      go_wp2_with fail
                      go_ret
                      exact ⟨rfl, HE.out.below0⟩
        · have HT := Lib.hid (atake_no 40 l ao cap (kk : Int) wr HS.out.set (.inr (by rw [← HSM.out]; omega)))
          rw [if_neg (by omega), ← HM.out] at HT
          go_wp2_with fail
          refine HT.out.mono ?_
          rintro e w3 ⟨rfl, g3⟩
          have ga := (Gr.refl [] w3).alloc (Obj.cells #[.int .i64 0, .slice none 0 0] 25)
          have S3 := (HS.out.gr0 g3).gr0 ga
          clear c0 c1 g3 ga HT
          have c0 := S3.c0
          have c1 := S3.c1
          rw [← HM.out] at c1
          have HF := Lib.hid (afree_any 40 l ao cap _ S3.set)
          rw [← HM.out, ← HSM.out] at HF
          have HE := Lib.hid S3.gr
          clear S3 HS
          have hlt : (s : Int) < (kk : Int) := by omega
          go_wp2_with fail
          refine HF.out.mono ?_
          rintro e w4 ⟨rfl, g4⟩
          have HE2 := Lib.hid (HE.out.next0 g4)
          clear g4 c0 c1
          go_wp2_with fail
          go_ret
          exact ⟨rfl, HE2.out.below0⟩

theorem walk_AllocBack (v : Value) (xs : List Int) (n : Int) {w : World} (h : SlI .u8 w v xs) (hx : ∀ x ∈ xs, (Lit.int .u8 x).wf = true) (hn : (Lit.int .u8 n).wf = true) :
    Calls Try.prog 5 #[v, .int .u8 n] w fun e w' => e = .returned (.bool true) ∧ Below w.heap.size w w' := by
  obtain ⟨nb, rfl, hnb⟩ := natU8 hn
  rcases h with ⟨ao, cap, rfl, rfl, hn, hm⟩ | ⟨b, off, cap, rfl, h1, h2, h3, h4, h5⟩
  · exact back_any ao 0 cap nb hnb (fun _ => 0) w (fun k hk => by omega) hn (Nat.zero_le _) hm
  · refine back_any _ xs.length cap nb hnb (fun k => (xs.getD k 0).toNat) w (fun k hk => ?_) (fun e => by cases e) h2 h3
    have hg := List.getElem?_eq_getElem hk
    have hb := bounds_u8 (hx _ (List.mem_of_getElem? hg))
    have hd : xs.getD k 0 = xs[k] := by simp [List.getD, hg]
    refine ⟨b, off, rfl, h4, ?_, ?_⟩
    · rw [h5 k _ hg, hd]
      congr 2
      omega
    · show (xs.getD k 0).toNat < 256
      rw [hd]; omega

end Go.Proofs.Ytpkhfdcokcchdaa
