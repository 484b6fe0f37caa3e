/-
  SnAb: HuW, SqU, SqO, HuM.
-/
import Derived.Test.YtifekejcbhllpaaGreatSkAe
import Derived.Test.YtifekejcbhllpaaGreatSkAf
import Derived.Test.YtifekejcbhllpaaGreatSkAg
import Derived.Test.YtifekejcbhllpaaGreatSkAa
import Derived.Test.YtifekejcbhllpaaGreatSkAb
import Derived.Test.YtifekejcbhllpaaGreatSkAc
import Derived.Test.YtifekejcbhllpaaGreatSkAd
import Derived.Test.YtifekejcbhllpaaGreatSkAh
import Derived.Test.YtifekejcbhllpaaGreatSkAi
import Derived.Test.YtifekejcbhllpaaGreatSkAj
import Derived.Test.YtifekejcbhllpaaGreatSkAk
import Derived.Test.YtifekejcbhllpaaGreatSkAl
import Derived.Test.YtifekejcbhllpaaGreatSkAn
import Derived.Test.YtifekejcbhllpaaGreatSkAo
import Derived.Test.YtifekejcbhllpaaGreatSkAm
import Derived.Test.YtifekejcbhllpaaGreatSkAp
import Derived.Test.YtifekejcbhllpaaGreatSkAq
import Derived.Test.YtifekejcbhllpaaGreatSkAr
import Derived.Test.YtifekejcbhllpaaGreatSkAt
import Derived.Test.YtifekejcbhllpaaGreatSkAu
import Derived.Test.YtifekejcbhllpaaGreatSkAs
import Derived.Test.YtifekejcbhllpaaGreatSkAv
import Derived.Test.YtifekejcbhllpaaGreatSkAw
import Derived.Test.YtifekejcbhllpaaGreatSkAx
import Derived.Test.YtifekejcbhllpaaGreatSkAy
import Derived.Test.YtifekejcbhllpaaGreatSkAz
import Derived.Test.YtifekejcbhllpaaGreatSkBa
import Derived.Test.YtifekejcbhllpaaGreatSkBb
import Derived.Test.YtifekejcbhllpaaGreatSkBc
import Derived.Test.YtifekejcbhllpaaGreatSkBd
import Derived.Test.YtifekejcbhllpaaGreatSkBe
import Derived.Test.YtifekejcbhllpaaGreatSkBf
import Derived.Test.YtifekejcbhllpaaGreatSkBg
import Derived.Test.YtifekejcbhllpaaGreatSkBh
import Derived.Test.YtifekejcbhllpaaGreatSkBi
import Derived.Test.YtifekejcbhllpaaGreatSkBj
import Derived.Test.YtifekejcbhllpaaGreatSkBk
import Derived.Test.YtifekejcbhllpaaGreatSkBl
import Derived.Test.YtifekejcbhllpaaGreatSkBm
import Derived.Test.YtifekejcbhllpaaGreatSkBn
import Derived.Test.YtifekejcbhllpaaGreatSnAa
import Derived.StillTailTactics
import Derived.Deep.LoopGhost
import Derived.Laws.AppendOwn
import Derived.Shelf.SlIterI.Nil
import Derived.Shelf.SortM.Plain
import Derived.Shelf.SortM.SortNone
import Derived.Ground.GgzProg
import Derived.Ground.SlgmProg
import Derived.Test.YtifekejcbhllpaaGreatRows
import Derived.WalkKit
import Derived.Handy
import Derived.Lib.Hide
import Derived.Lib.AppendStr
import Derived.Deep.QuietTactic
import Derived.BigQuiet
import Derived.KernelRfl
import Derived.Shelf.Strings.Repeat
import Derived.Ground.NamesProg
import Derived.Lib.Agree
import Derived.Deep.MidRow
import Derived.Deep.RegionHeld3
import Derived.BigRegion
import Derived.Deep.AppendLies
import Derived.Deep.RegionLaw
import Derived.IntWalk
import Derived.Maps.RangeWalk
import Derived.Maps.OwnSet
import Derived.Deep.CutBlock

set_option linter.unusedVariables false

/-
  Layer 10: a word of a page's line is written, whatever comes.
-/
namespace Go.Proofs.YtifekejcbhllpaaGreat
open Go.RowKit
set_option linter.unusedVariables false

section
variable {w w' : World} {X : HtA} {A : FlA} {a : DevA} {C : CfgZ} {gd cm : Bool} {F F' : Nat → Nat → Nat} {V V' : FlV} {N N' lim : Nat} {S : HtS}
set_option maxRecDepth 100000 in
set_option maxHeartbeats 8000000 in
theorem gww1_any {rc kc vc : Nat} (h : HgIs w X A a C gd cm F V N lim S) (hN : N < 490000000) (g k : Nat) (hg : g < pgC C) (hk : k < 8) (kk v : Nat) (hs : kk < 8 ∧ v < 18446744073709551616) (r1 : w.cell? ⟨rc, 0, none⟩ = some (.pointer (some ⟨X.pb, 0, none⟩))) (s1 : w.cell? ⟨kc, 0, none⟩ = some (.int .i64 (kk : Int)) ∧ w.cell? ⟨vc, 0, none⟩ = some (.int .u64 (v : Int))) :
    Calls Tryz.prog 66 #[.int .i64 ((8 * S.fr g + k : Nat) : Int), .pointer (some ⟨rc, 0, none⟩), .pointer (some ⟨kc, 0, none⟩), .pointer (some ⟨vc, 0, none⟩)] w fun e w' => ∃ x : Int, e = .returned (.int .i64 x) ∧ WrP C X A a gd cm lim F S (fun l2 m => if l2 = 8 * S.fr g + k then updF (F (8 * S.fr g + k)) kk v m else F l2 m) (fun F' => ∃ H, (F' = fun l2 m => if l2 = 8 * S.fr g + k then H m else F l2 m) ∧ One2 (F (8 * S.fr g + k)) (updF (F (8 * S.fr g + k)) kk v) H) (N + 4200) x w' ∧ Gr (A.all (cR C) ++ a.all) w w' := by
  have hC := h.fl.ok
  obtain ⟨n1, n2, n3, n4, n5, n6⟩ := pg_nums hC h.pos
  have hf := h.inv.lt g hg
  have HW := Lib.hid (fun W (g1 : Gr [] w W) => (h.gr0 g1).fl.word hN (8 * S.fr g + k) kk v (by omega) hs.1 hs.2)
  have H := Lib.hid (And.intro h (show ∀ g2, g2 < pgC C → ¬ g2 / 8 = 8 * S.fr g + k from fun g2 h2 => by omega))
  obtain ⟨l, hl⟩ : ∃ l, l = 8 * S.fr g + k := ⟨_, rfl⟩
  rw [← hl] at HW H ⊢
  have k4 := kp_cell (a := ⟨X.pb, 0, none⟩) h.hc.1
  have kr := kp_cell r1
  have ks := kp_cell s1.1
  have kv := kp_cell s1.2
  have hne := kp_ne w
  clear h hC n1 n2 n3 n4 n5 n6 hf hl r1 s1
  go_enter Tryz.func66, Tryz.ntmps66
  go_wp2_with fail
  refine wp_region_kp_tail 7 (by kernel_rfl) (by kernel_rfl) ?_
  simp only [List.take_succ_cons, List.take_zero, List.drop_succ_cons, List.drop_zero]
  repeat (go_big_quiet_step (fail))
  with_reducible refine wpQuiet_nil ?_
  rintro _ ⟨y, rfl⟩
  have HG := Lib.hid (Gr.ofBelow (cs := []) y.h)
  clear k4 kr ks kv hne
  generalize y.w = w2 at *
  go_wp2_with fail
  refine (HW.out _ HG.out).mono ?_
  rintro e w3 ⟨x, rfl, f3, g3⟩
  have H3 := Lib.hid (And.intro (WrP.of (H.out.1.gr0 HG.out) g3 f3 (fun g2 h2 => by rw [if_neg (H.out.2 g2 h2)]) (by omega)) ((HG.out.of0 (cs := A.all (cR C) ++ a.all)).trans g3))
  clear f3 g3
  go_wp2_with fail
  go_ret
  exact ⟨x, rfl, H3.out.1, H3.out.2⟩
set_option maxRecDepth 100000 in
set_option maxHeartbeats 16000000 in
theorem gchangew_any {rc kc vc : Nat} (h : HgIs w X A a C gd cm F V N lim S) (hl : 1 ≤ lim) (hl2 : lim < 1000000) (hN : N < 400000000) (g k : Nat) (hg : g < pgC C) (hk : k < 8) (kk v : Nat) (hs : kk < 8 ∧ v < 18446744073709551616) (r1 : w.cell? ⟨rc, 0, none⟩ = some (.pointer (some ⟨X.pb, 0, none⟩))) (s1 : w.cell? ⟨kc, 0, none⟩ = some (.int .i64 (kk : Int)) ∧ w.cell? ⟨vc, 0, none⟩ = some (.int .u64 (v : Int))) (hrc : rc ∉ X.all ++ (A.all (cR C) ++ a.all)) (hkc : kc ∉ X.all ++ (A.all (cR C) ++ a.all)) (hvc : vc ∉ X.all ++ (A.all (cR C) ++ a.all)) :
    Calls Tryz.prog 63 #[.pointer (some ⟨X.pb, 0, none⟩), .int .i64 (g : Int), .int .i64 (k : Int), (.func (.func 66) #[] #[.pointer (some ⟨rc, 0, none⟩), .pointer (some ⟨kc, 0, none⟩), .pointer (some ⟨vc, 0, none⟩)])] w fun e w' => ∃ x : Int, e = .returned (.int .i64 x) ∧ HwP C X A a gd cm lim (ySee F S) (fun g2 k2 m => if g2 = g ∧ k2 = k then updF (ySee F S g k) kk v m else ySee F S g2 k2 m) (fun G => One2 (ySee F S g k) (updF (ySee F S g k) kk v) G) g k (N + 42000) x w' ∧ Gr (X.all ++ (A.all (cR C) ++ a.all)) w w' := by
  have HF0 := Lib.hid (gfind_in h g k hg hk)
  have H0 := Lib.hid h
  have HCl := Lib.hid (show w.cell? ⟨rc, 0, none⟩ = some (.pointer (some ⟨X.pb, 0, none⟩)) ∧ (w.cell? ⟨kc, 0, none⟩ = some (.int .i64 (kk : Int)) ∧ w.cell? ⟨vc, 0, none⟩ = some (.int .u64 (v : Int))) from ⟨r1, s1⟩)
  have HKp := Lib.hid (show ∀ (W W' : World), (W.cell? ⟨rc, 0, none⟩ = some (.pointer (some ⟨X.pb, 0, none⟩)) ∧ (W.cell? ⟨kc, 0, none⟩ = some (.int .i64 (kk : Int)) ∧ W.cell? ⟨vc, 0, none⟩ = some (.int .u64 (v : Int)))) → ∀ bs, Gr bs W W' → (∀ x ∈ bs, x ∈ X.all ++ (A.all (cR C) ++ a.all)) → (W'.cell? ⟨rc, 0, none⟩ = some (.pointer (some ⟨X.pb, 0, none⟩)) ∧ (W'.cell? ⟨kc, 0, none⟩ = some (.int .i64 (kk : Int)) ∧ W'.cell? ⟨vc, 0, none⟩ = some (.int .u64 (v : Int)))) from fun W W' q bs g hbs => by
    have hrc := fun e => hrc (hbs _ e)
    have hkc := fun e => hkc (hbs _ e)
    have hvc := fun e => hvc (hbs _ e)
    exact ⟨(cell_gr7 g (World.block_lt_of_cell? _ _ q.1) hrc).trans q.1, (cell_gr7 g (World.block_lt_of_cell? _ _ q.2.1) hkc).trans q.2.1, (cell_gr7 g (World.block_lt_of_cell? _ _ q.2.2) hvc).trans q.2.2⟩)
  have HP := Lib.hid (And.intro hg (And.intro hk (And.intro hs (And.intro hl (And.intro hl2 hN)))))
  have hht := h.htb g hg
  have hG7 : pgC C ≤ 2048 := by have := pg_nums h.fl.ok h.pos; omega
  obtain ⟨G, hG⟩ : ∃ G, G = pgC C := ⟨_, rfl⟩
  have HGG := Lib.hid hG
  obtain ⟨T, hT⟩ : ∃ T, T = S.ht g := ⟨_, rfl⟩
  have c6 := h.hc.2.2.2.2.2.1
  have c4 := h.hc.2.2.2.1
  obtain ⟨t0, t1⟩ := h.htAt hg
  rw [← hT] at t0 hht
  have HT := Lib.hid hT
  rw [← hG] at c6
  have g1 : (g : Int) < (G : Int) := by omega
  have g0 : (0 : Int) ≤ (g : Int) := by omega
  have k6 := kp_cell c6
  have k4 := kp_cell c4
  have kt := kp_cell t0
  have hne := kp_ne w
  clear h r1 s1 hrc hkc hvc hs hN hT t1 c6 c4 t0
  go_enter Tryz.func63, Tryz.ntmps63
  go_wp2_with fail
  refine HF0.out.mono ?_
  rintro e w2 ⟨rfl, rfl⟩
  go_upto_region 4 with fail
  refine wp_region_kp (by kernel_rfl) (by kernel_rfl) ?_
  repeat (go_big_quiet_step (fail))
  with_reducible refine wpQuiet_nil ?_
  rintro _ ⟨y, rfl⟩
  have gy := Lib.hid (Gr.ofBelow (cs := []) y.h)
  clear k6 k4 kt hne HF0
  generalize y.w = w3 at *
  clear y
  go_upto_if 36 with fail
  go_cut [11] (fun _ wz => ∃ (F1 : Nat → Nat → Nat) (V1 : FlV) (S1 : HtS), (S1.ht g < lim ∧ ∀ g2 k m, g2 < pgC C → k < 8 → F1 (8 * S1.fr g2 + k) m = F (8 * S.fr g2 + k) m) ∧ HgIs wz X A a C gd cm F1 V1 (N + 37800) lim S1 ∧ (wz.cell? ⟨rc, 0, none⟩ = some (.pointer (some ⟨X.pb, 0, none⟩)) ∧ (wz.cell? ⟨kc, 0, none⟩ = some (.int .i64 (kk : Int)) ∧ wz.cell? ⟨vc, 0, none⟩ = some (.int .u64 (v : Int)))) ∧ Gr (X.all ++ (A.all (cR C) ++ a.all)) w2 wz)
  case first =>
    by_cases hcm : lim ≤ T
    · as_aux_lemma =>
        have hcb : decide (lim ≤ T) = true := decide_eq_true hcm
        have HC := Lib.hid hcm
        have HEx := Lib.hid (gexam_any (H0.out.gr0 gy.out) (by have := HP.out.2.2.2.2.2; omega) g hg)
        clear hcm
        go_wp2_with fail
        refine HEx.out.mono ?_
        rintro e w5 ⟨x, S0, rfl, h5, t5, g5⟩
        have HG5 := Lib.hid ((gy.out.of0 (cs := X.all ++ (A.all (cR C) ++ a.all))).trans g5)
        have hcl5 := Lib.hid (HKp.out _ _ (HKp.out _ _ HCl.out _ gy.out (by simp)) _ g5 (fun x hx => hx))
        rcases h5 with ⟨rfl, F1, V1, h5, x5⟩ | ⟨rfl, hgd, F1, V1, h5, x5⟩ | ⟨rfl, hcx, h5⟩
        · have H5 := Lib.hid (And.intro h5 x5)
          have c6 : w5.cell? ⟨X.pb, 6, none⟩ = some (.slice (some ⟨X.hb, 0, none⟩) (pgC C) (pgC C)) := h5.hc.2.2.2.2.2.1
          rw [← HGG.out] at c6
          obtain ⟨t0, t1⟩ := h5.htAt hg
          generalize S0.ht g = T0 at *
          have HZ := Lib.hid (h5.setHt (g := g) 0 (Nat.zero_le _))
          have HZG := Lib.hid (show Gr [X.hb] w5 (w5.setCell ⟨X.hb, g, none⟩ (.int .i64 ((0 : Nat) : Int))) from (Gr.refl [X.hb] w5).setCell (p := ⟨X.hb, g, none⟩) (.inl (by simp)) _)
          clear h5 x5 g5 t5 HEx hcb
          go_wp2_with fail
          clear c6 t0 t1
          go_meet
          refine ⟨F1, V1, htS S0 g 0, ⟨?_, H5.out.2⟩, HZ.out, HKp.out _ _ hcl5.out _ HZG.out (fun x hx => by have : x = X.hb := (by simpa using hx); subst this; simp [HtA.all]), HG5.out.nextN HZG.out (fun x hx => by have : x = X.hb := (by simpa using hx); subst this; simp [HtA.all])⟩
          show updN S0.ht g 0 g < lim
          rw [updN_same]
          have := HP.out.2.2.2.1
          omega
        · have H5 := Lib.hid (And.intro hgd (And.intro h5 x5))
          clear h5 x5 g5 t5 HEx hcb hgd
          go_wp2_with fail
          go_ret
          exact ⟨10, rfl, .inr (.inl ⟨rfl, H5.out.1, F1, V1, S, H5.out.2.1.more (by omega), fun g2 k2 m h2 hk2 _ => H5.out.2.2 g2 k2 m h2 hk2⟩), HG5.out⟩
        · have H5 := Lib.hid (And.intro hcx h5)
          clear h5 g5 t5 HEx hcb hcx
          go_wp2_with fail
          go_ret
          refine ⟨6, rfl, .inr (.inr ⟨rfl, H5.out.1, (H5.out.2.imp fun F3 hF3 => ?_).more (by omega)⟩), HG5.out⟩
          exact ⟨ySee F S, fun _ _ _ _ _ _ _ => rfl, .inl fun _ _ => rfl, hF3.congr H0.out.fl.ok H0.out.pos (fun _ _ _ _ => rfl) (by omega) (fun _ _ _ _ _ _ => rfl)⟩
    · have hcb : decide (lim ≤ T) = false := decide_eq_false hcm
      have HC := Lib.hid hcm
      clear hcm
      go_wp2_with fail
      go_meet
      exact ⟨F, V, S, ⟨by rw [← HT.out]; have := HC.out; omega, fun _ _ _ _ _ => rfl⟩, (H0.out.gr0 gy.out).more (by omega), HKp.out _ _ HCl.out _ gy.out (by simp), gy.out.of0⟩
  case rest =>
    obtain ⟨F1, V1, S1, k1, k2, k3, k4⟩ := hcut
    obtain ⟨wy, hwy⟩ : ∃ wy, wy = wc := ⟨_, rfl⟩
    rw [← hwy] at k2 k3 k4 ⊢
    have HA := Lib.hid k1
    have H5 := Lib.hid (And.intro k2 (And.intro k3 k4))
    have HF1 := Lib.hid (gfind_in k2 g k hg hk)
    have HW1 := Lib.hid (gww1_any k2 (by have := HP.out.2.2.2.2.2; omega) g k hg hk kk v HP.out.2.2.1 k3.1 k3.2)
    have HNN := Lib.hid (pg_nums k2.fl.ok k2.pos)
    clear hwy k1 k2 k3 k4 gy HT HCl
    obtain ⟨l, hl0⟩ : ∃ l, l = 8 * S1.fr g + k := ⟨_, rfl⟩
    rw [← hl0] at HF1 HW1
    have HL := Lib.hid hl0
    clear hl0
    go_wp2_with fail
    refine HF1.out.mono ?_
    rintro e w6 ⟨rfl, rfl⟩
    go_wp2_with fail
    refine HW1.out.mono ?_
    rintro e w7 ⟨x, rfl, h7, g7⟩
    have HG7 := Lib.hid (H5.out.2.2.trans (g7.mono (fun x hx => List.mem_append.2 (.inr hx))))
    rcases h7 with ⟨rfl, V2, h7⟩ | ⟨rfl, hgd, V2, h7⟩ | ⟨rfl, hcx, h7⟩
    · obtain ⟨t0, t1⟩ := h7.htAt hg
      have c6 : w7.cell? ⟨X.pb, 6, none⟩ = some (.slice (some ⟨X.hb, 0, none⟩) (pgC C) (pgC C)) := h7.hc.2.2.2.2.2.1
      rw [← HGG.out] at c6
      have hlt := HA.out.1
      obtain ⟨T1, hT1⟩ : ∃ T1, T1 = S1.ht g := ⟨_, rfl⟩
      obtain ⟨T2, hT2⟩ : ∃ T2, T2 = S1.ht g + 1 := ⟨_, rfl⟩
      rw [← hT1] at t0
      have wt : IntKind.i64.wrap ((T1 : Int) + 1) = (T2 : Int) := by rw [show (T1 : Int) + 1 = (T2 : Int) by omega]; exact IntWalk.i64_in _ (by omega)
      have HZ := Lib.hid (h7.setHt (g := g) T2 (by omega))
      have HZG := Lib.hid (show Gr [X.hb] w7 (w7.setCell ⟨X.hb, g, none⟩ (.int .i64 (T2 : Int))) from (Gr.refl [X.hb] w7).setCell (p := ⟨X.hb, g, none⟩) (.inl (by simp)) _)
      have HI := Lib.hid h7.inv
      clear h7 g7 hT1 hT2 hlt HW1 HF1 H5
      go_wp2_with fail
      clear c6 t0 t1 wt
      go_ret
      refine ⟨0, rfl, .inl ⟨rfl, _, V2, _, HZ.out.more (by omega), fun g2 k2 m h2 hk2 hm => ?_⟩, HG7.out.nextN HZG.out (fun x hx => by have : x = X.hb := (by simpa using hx); subst this; simp [HtA.all])⟩
      show (if 8 * S1.fr g2 + k2 = l then updF (F1 l) kk v m else F1 (8 * S1.fr g2 + k2) m) = if g2 = g ∧ k2 = k then updF (ySee F S g k) kk v m else F (8 * S.fr g2 + k2) m
      rw [HL.out]
      by_cases e : g2 = g ∧ k2 = k
      · rw [if_pos e, if_pos (by rw [e.1, e.2])]
        exact updF_congr (HA.out.2 g k m hg hk)
      · rw [if_neg e, if_neg (fun e2 => e ?_), HA.out.2 g2 k2 m h2 hk2]
        have : S1.fr g2 = S1.fr g := by omega
        exact ⟨HI.out.inj g2 g h2 hg this, by omega⟩
    · have H7 := Lib.hid (And.intro hgd h7)
      clear h7 g7 hgd HW1 HF1 H5
      go_wp2_with fail
      go_ret
      exact ⟨10, rfl, .inr (.inl ⟨rfl, H7.out.1, F1, V2, S1, H7.out.2.more (by omega), fun g2 k2 m h2 hk2 _ => HA.out.2 g2 k2 m h2 hk2⟩), HG7.out⟩
    · have H7 := Lib.hid (And.intro hcx (And.intro h7 (And.intro H5.out.1.inv (H5.out.1.tbo (by have := HP.out.2.2.2.2.2; omega)))))
      have HMV := Lib.hid H5.out.1.mvb
      clear h7 g7 hcx HW1 HF1 H5
      go_wp2_with fail
      go_ret
      refine ⟨6, rfl, .inr (.inr ⟨rfl, H7.out.1, (H7.out.2.1.imp fun F3 hF3 => ?_).more (by omega)⟩), HG7.out⟩
      obtain ⟨H, rfl, hH⟩ := hF3
      have hlt := H7.out.2.2.1.lt g hg
      refine ⟨fun g2 k2 m => if g2 = g ∧ k2 = k then H m else F (8 * S.fr g2 + k2) m, fun g2 k2 m h2 hk2 hm hne => if_neg hne, ?_, S1.fr, S1.mv, H7.out.2.2.2.line H0.out.fl.ok H0.out.pos (by rw [HL.out]; omega) H, fun g2 h2 => by have := HMV.out g2 h2; omega, fun g2 k2 m h2 hk2 hm => ?_⟩
      · have hz : ∀ m, (if g = g ∧ k = k then H m else F (8 * S.fr g + k) m) = H m := fun m => if_pos ⟨rfl, rfl⟩
        rw [HL.out] at hH
        rcases hH with hH | hH
        · exact .inl fun m hm => (hz m).trans ((hH m hm).trans (HA.out.2 g k m hg hk))
        · exact .inr fun m hm => (hz m).trans ((hH m hm).trans (updF_congr (HA.out.2 g k m hg hk)))
      · show (if 8 * S1.fr g2 + k2 = l then H m else F1 (8 * S1.fr g2 + k2) m) = if g2 = g ∧ k2 = k then _ else F (8 * S.fr g2 + k2) m
        rw [HL.out]
        by_cases e : g2 = g ∧ k2 = k
        · rw [if_pos e, if_pos (by rw [e.1, e.2])]
        · rw [if_neg e, if_neg (fun e2 => e ?_), HA.out.2 g2 k2 m h2 hk2]
          have : S1.fr g2 = S1.fr g := by omega
          exact ⟨H7.out.2.2.1.inj g2 g h2 hg this, by omega⟩
theorem gwriteword_in (h : HgIs w X A a C gd cm F V N lim S) (hl : 1 ≤ lim) (hl2 : lim < 1000000) (hN : N < 400000000) (g k : Nat) (hg : g < pgC C) (hk : k < 8) (kk v : Nat) (hs : kk < 8 ∧ v < 18446744073709551616) :
    Calls Tryz.prog 41 #[.pointer (some ⟨X.pb, 0, none⟩), .int .i64 (g : Int), .int .i64 (k : Int), .int .i64 (kk : Int), .int .u64 (v : Int)] w fun e w' => ∃ x : Int, e = .returned (.int .i64 x) ∧ HwP C X A a gd cm lim (ySee F S) (fun g2 k2 m => if g2 = g ∧ k2 = k then updF (ySee F S g k) kk v m else ySee F S g2 k2 m) (fun G => One2 (ySee F S g k) (updF (ySee F S g k) kk v) G) g k (N + 42000) x w' ∧ Gr (X.all ++ (A.all (cR C) ++ a.all)) w w' := by
  have ga := (Gr.refl [] w).alloc (Obj.cells #[.pointer (some ⟨X.pb, 0, none⟩)] 26)
  have gb := (ga.alloc (Obj.cells #[.int .i64 (kk : Int)] 3)).alloc (Obj.cells #[.int .u64 (v : Int)] 22)
  have s1 : (w.alloc (Obj.cells #[.pointer (some ⟨X.pb, 0, none⟩)] 26)).heap.size = w.heap.size + 1 := World.size_alloc _ _
  have s2 : ((w.alloc (Obj.cells #[.pointer (some ⟨X.pb, 0, none⟩)] 26)).alloc (Obj.cells #[.int .i64 (kk : Int)] 3)).heap.size = w.heap.size + 1 + 1 := by rw [World.size_alloc, s1]
  have h1 := ((Holds.new w #[.pointer (some ⟨X.pb, 0, none⟩)] 26).alloc (Obj.cells #[.int .i64 (kk : Int)] 3)).alloc (Obj.cells #[.int .u64 (v : Int)] 22)
  have h2 := (Holds.new (w.alloc (Obj.cells #[.pointer (some ⟨X.pb, 0, none⟩)] 26)) #[.int .i64 (kk : Int)] 3).alloc (Obj.cells #[.int .u64 (v : Int)] 22)
  have h3 := Holds.new ((w.alloc (Obj.cells #[.pointer (some ⟨X.pb, 0, none⟩)] 26)).alloc (Obj.cells #[.int .i64 (kk : Int)] 3)) #[.int .u64 (v : Int)] 22
  rw [s1] at h2
  rw [s2] at h3
  have HC := Lib.hid (gchangew_any (rc := w.heap.size) (kc := w.heap.size + 1) (vc := w.heap.size + 1 + 1) (h.gr0 gb) hl hl2 hN g k hg hk kk v hs (h1.cell 0) ⟨h2.cell 0, h3.cell 0⟩ (fun e => by have := h.lt _ e; omega) (fun e => by have := h.lt _ e; omega) (fun e => by have := h.lt _ e; omega))
  have c0 := h1.cell 0
  have c1 := h2.cell 0
  have c2 := h3.cell 0
  have HG := Lib.hid gb
  have k1 : ¬ (kk : Int) < 0 := by omega
  have k2 : ¬ (8 : Int) ≤ (kk : Int) := by omega
  have k3 : decide (8 ≤ kk) = false := decide_eq_false (by omega)
  clear h hl hl2 hN hg hk hs ga gb h1 h2 h3 s1 s2
  go_enter Tryz.func41, Tryz.ntmps41
  go_upto_region 1 with fail
  generalize (((w.alloc (Obj.cells #[.pointer (some ⟨X.pb, 0, none⟩)] 26)).alloc (Obj.cells #[.int .i64 (kk : Int)] 3)).alloc (Obj.cells #[.int .u64 (v : Int)] 22)) = w1 at *
  go_wp2_with fail
  refine HC.out.mono ?_
  rintro e w2 ⟨x, rfl, q1, q4⟩
  have HZ := Lib.hid (And.intro q1 ((HG.out.of0 (cs := X.all ++ (A.all (cR C) ++ a.all))).trans q4))
  clear q1 q4 HC
  go_wp2_with fail
  go_ret
  exact ⟨x, rfl, HZ.out.1, HZ.out.2⟩
variable {Y : Nat → Nat → Nat → Nat}
def putQ (Y : Nat → Nat → Nat → Nat) (g k kk v : Nat) : Nat → Nat → Nat → Nat := fun g2 k2 m => if g2 = g ∧ k2 = k then updF (Y g k) kk v m else Y g2 k2 m
theorem HLg.word (h : HLg C X A a gd cm lim Y N w) (hN : N < 400000000) (g k : Nat) (hg : g < pgC C) (hk : k < 8) (kk v : Nat) (hs : kk < 8 ∧ v < 18446744073709551616) :
    Calls Tryz.prog 41 #[.pointer (some ⟨X.pb, 0, none⟩), .int .i64 (g : Int), .int .i64 (k : Int), .int .i64 (kk : Int), .int .u64 (v : Int)] w fun e w' => ∃ x : Int, e = .returned (.int .i64 x) ∧ ((x = 0 ∧ HLg C X A a gd cm lim (putQ Y g k kk v) (N + 42000) w') ∨ (x = 10 ∧ gd = false ∧ HLg C X A a gd cm lim Y (N + 42000) w') ∨ (x = 6 ∧ cm = false ∧ HLo C a gd Y (fun G => One2 (Y g k) (updF (Y g k) kk v) G) g k (N + 42000) w')) ∧ Gr (X.all ++ (A.all (cR C) ++ a.all)) w w' := by
  obtain ⟨l1, l2, F, V, S, h1, h2⟩ := h
  refine (gwriteword_in h1 l1 l2 hN g k hg hk kk v hs).mono ?_
  rintro e w2 ⟨x, rfl, hx, g2⟩
  refine ⟨x, rfl, ?_, g2⟩
  rcases hx with ⟨e, F', V', S', q1, q2⟩ | ⟨e, hgd, F', V', S', q1, q2⟩ | ⟨e, hc, f⟩
  · refine .inl ⟨e, l1, l2, F', V', S', q1, fun g3 k3 m h3 hk3 hm => ?_⟩
    refine (q2 g3 k3 m h3 hk3 hm).trans ?_
    show (if g3 = g ∧ k3 = k then updF (ySee F S g k) kk v m else F (8 * S.fr g3 + k3) m) = if g3 = g ∧ k3 = k then updF (Y g k) kk v m else Y g3 k3 m
    split
    · exact updF_congr (h2 g k m hg hk hm)
    · exact h2 g3 k3 m h3 hk3 hm
  · exact .inr (.inl ⟨e, hgd, l1, l2, F', V', S', q1, fun g3 k3 m h3 hk3 hm => (q2 g3 k3 m h3 hk3 hm).trans (h2 g3 k3 m h3 hk3 hm)⟩)
  · refine .inr (.inr ⟨e, hc, f.imp fun F3 hF3 => ?_⟩)
    obtain ⟨Z, z1, z2, z3⟩ := hF3
    refine ⟨Z, fun g3 k3 m h3 hk3 hm hne => (z1 g3 k3 m h3 hk3 hm hne).trans (h2 g3 k3 m h3 hk3 hm), ?_, z3⟩
    rcases z2 with z2 | z2
    · exact .inl fun m hm => (z2 m hm).trans (h2 g k m hg hk hm)
    · exact .inr fun m hm => (z2 m hm).trans (updF_congr (h2 g k m hg hk hm))
end
end Go.Proofs.YtifekejcbhllpaaGreat

/-
  SpaceTorn: a fuse, what a Boot leaves, bytes opened behind it; words.
-/
namespace Go.Proofs.YtifekejcbhllpaaGreat
open Go.RowKit
set_option linter.unusedVariables false

section
variable {w w' : World} {X : HtA} {A : FlA} {a : DevA} {C : CfgZ} {gd cm : Bool} {N N' lim sb : Nat} {B : ByteArray}
/-- The error of a word's place, where it is one. -/
theorem word_in (h : HSp C X A a gd cm lim sb B N w) (q : Nat) (hq : 8 * q + 8 ≤ B.size) : Calls Tryz.prog 40 #[.pointer (some ⟨sb, 0, none⟩), .int .i64 ((8 * q : Nat) : Int)] w fun e w' => e = .returned (.int .i64 0) ∧ w' = w := by
  have HW := Lib.hid (within_any h ((8 * q : Nat) : Int) 8)
  have he : errW B.size ((8 * q : Nat) : Int) 8 = 0 := if_neg (by omega)
  rw [he] at HW
  obtain ⟨k, hk⟩ : ∃ k, k = 8 * q := ⟨_, rfl⟩
  rw [← hk] at HW ⊢
  have hk2 := h.sz
  have hk3 := h.pg
  have t1 : (k : Int).tmod 8 = 0 := by rw [Int.tmod_eq_emod_of_nonneg (by omega)]; omega
  have t2 : IntKind.i64.wrap 0 = 0 := IntWalk.i64_in _ (by omega)
  clear h he hq hk hk2 hk3
  go_enter Tryz.func40, Tryz.ntmps40
  go_wp2_with fail
  refine HW.out.mono ?_
  rintro e w2 ⟨rfl, rfl⟩
  go_wp2_with fail
  go_ret
  exact ⟨rfl, rfl⟩
theorem spword_in (h : HSp C X A a gd cm lim sb B N w) (q : Nat) (hq : 8 * q + 8 ≤ B.size) : Calls Tryz.prog 14 #[.pointer (some ⟨sb, 0, none⟩), .int .i64 ((8 * q : Nat) : Int)] w fun e w' => e = .returned (.tuple #[.int .u64 ((wdL (lnQ B (q / 8)).data.toList (q % 8) : Nat) : Int), .int .i64 0]) ∧ Gr [] w w' := by
  have HW := Lib.hid (word_in h q hq)
  have hsz := h.sz
  have HLi := Lib.hid (spline_any h (8 * q) (by omega))
  rw [show 8 * q / 64 = q / 8 by omega] at HLi
  have hT := lnQ_size h (L := q / 8) (by omega)
  obtain ⟨T, hTT⟩ : ∃ T, T = lnQ B (q / 8) := ⟨_, rfl⟩
  rw [← hTT] at HLi hT ⊢
  have HGt := Lib.hid (fun W => get_at T hT (q % 8) (Nat.mod_lt _ (by omega)) W)
  obtain ⟨v, hv⟩ : ∃ v, v = wdL T.data.toList (q % 8) := ⟨_, rfl⟩
  rw [← hv] at HGt ⊢
  obtain ⟨k, hk⟩ : ∃ k, k = 8 * q := ⟨_, rfl⟩
  obtain ⟨f, hf⟩ : ∃ f, f = 8 * (q % 8) := ⟨_, rfl⟩
  rw [← hk] at HW HLi ⊢
  rw [← hf, hT] at HGt
  have t1 : (k : Int).tmod 64 = (f : Int) := by rw [Int.tmod_eq_emod_of_nonneg (by omega)]; omega
  have t2 : IntKind.i64.wrap (f : Int) = (f : Int) := IntWalk.i64_in _ (by omega)
  have l1 : (f : Int) ≤ 64 := by omega
  have l2 : f ≤ 64 := by omega
  have l0 : (0 : Int) ≤ (f : Int) := by omega
  clear h hsz hq hTT hv hk hf
  go_enter Tryz.func14, Tryz.ntmps14
  go_wp2_with fail
  refine HW.out.mono ?_
  rintro e w2 ⟨rfl, rfl⟩
  go_wp2_with fail
  refine HLi.out.mono ?_
  rintro e w3 ⟨rfl, g3⟩
  have HG := Lib.hid g3
  clear g3
  go_wp2_with fail
  refine (HGt.out _).mono ?_
  rintro e w4 ⟨rfl, rfl⟩
  go_wp2_with fail
  go_ret2
  exact ⟨rfl, HG.out⟩
end
end Go.Proofs.YtifekejcbhllpaaGreat

/-
  SpaceTorn's walk.
-/
namespace Go.Proofs.YtifekejcbhllpaaGreat
open Go.RowKit
set_option linter.unusedVariables false

theorem ext_listO (B : ByteArray) (x y : Nat) : (B.extract x y).data.toList = (B.data.toList.drop x).take (y - x) := by
  rw [ByteArray.data_extract, Array.toList_extract]
/-- A word of a line is eight bytes of all. -/
theorem word_list {B : ByteArray} {j : Nat} (hj : 8 * j + 8 ≤ B.size) (h64 : B.size % 64 = 0) : wdL (lnQ B (j / 8)).data.toList (j % 8) = getL (B.extract (8 * j) (8 * j + 8)).data.toList := by
  unfold wdL lnQ
  rw [ext_listO, ext_listO]
  congr 1
  rw [List.drop_take, List.drop_drop, List.take_take]
  congr 1
  · omega
  · congr 1
    omega
section
variable {w wr w2 : World} {bA gk cap : Nat} {s t : ByteArray} {p q r3 : Nat} {kf : Nat → Bool}
end
end Go.Proofs.YtifekejcbhllpaaGreat

/-
  Layer 10: load, on a device whose lines may be bad.
-/
namespace Go.Proofs.YtifekejcbhllpaaGreat
open Go.RowKit
set_option linter.unusedVariables false

/-- n pages are taken in. -/
structure LgI (w0 : World) (A : FlA) (a : DevA) (C : CfgZ) (gd : Bool) (F : Nat → Nat → Nat) (V : FlV) (N lim pb hb tb : Nat) (fr mv : Nat → Nat) (n : Nat) (v : Value) (wr : World) : Prop where
  fl : FLx C A a gd true F V N wr
  head : Holds wr pb (ldRow A C lim hb tb v) 103
  own : wr.ownsRow w0.heap.size 97 2 v n (plL fr mv n)
  hts : Holds wr hb (rowOf (fun _ => .int .i64 0) (pgC C)) 3
  tks : ∃ (cur : Array Value) (tk : Nat → Bool), Holds wr tb cur 4 ∧ (∀ q, q < frmC C → cur[q]? = some (.bool (tk q))) ∧ ∀ q, q < frmC C → (tk q = true ↔ (q < tbC C ∨ ∃ g, g < n ∧ fr g = q))
  lo : pb < w0.heap.size ∧ hb < w0.heap.size ∧ tb < w0.heap.size ∧ ∀ x ∈ A.all (cR C) ++ a.all, x < w0.heap.size
  nd : pb ≠ hb ∧ pb ≠ tb ∧ hb ≠ tb
  na : pb ∉ A.all (cR C) ++ a.all ∧ hb ∉ A.all (cR C) ++ a.all ∧ tb ∉ A.all (cR C) ++ a.all
  gr : Gr [pb, tb] w0 wr
section
variable {w0 w1 w2 w6 w w' wr : World} {A : FlA} {a : DevA} {C : CfgZ} {F : Nat → Nat → Nat} {V : FlV} {gd : Bool} {N lim pb hb tb n g cp q : Nat} {fr mv : Nat → Nat} {v : Value}
theorem LgI.gr0 (h : LgI w0 A a C gd F V N lim pb hb tb fr mv n v wr) (k : Gr [] wr w') : LgI w0 A a C gd F V N lim pb hb tb fr mv n v w' := by
  obtain ⟨cur, tk, q1, q2, q3⟩ := h.tks
  exact ⟨h.fl.gr0 k, h.head.gr0 k, own_gr0 h.own k, h.hts.gr0 k, ⟨cur, tk, q1.gr0 k, q2, q3⟩, h.lo, h.nd, h.na, h.gr.next0 k⟩
/-- A page's frame is taken. -/
structure LgT (w0 : World) (A : FlA) (a : DevA) (C : CfgZ) (gd : Bool) (F : Nat → Nat → Nat) (V : FlV) (N lim pb hb tb : Nat) (fr mv : Nat → Nat) (n : Nat) (v : Value) (wr : World) : Prop where
  fl : FLx C A a gd true F V N wr
  head : Holds wr pb (ldRow A C lim hb tb v) 103
  own : wr.ownsRow w0.heap.size 97 2 v n (plL fr mv n)
  hts : Holds wr hb (rowOf (fun _ => .int .i64 0) (pgC C)) 3
  tks : ∃ (cur : Array Value) (tk : Nat → Bool), Holds wr tb cur 4 ∧ (∀ q, q < frmC C → cur[q]? = some (.bool (tk q))) ∧ ∀ q, q < frmC C → (tk q = true ↔ (q < tbC C ∨ ∃ g, g < n + 1 ∧ fr g = q))
  lo : pb < w0.heap.size ∧ hb < w0.heap.size ∧ tb < w0.heap.size ∧ ∀ x ∈ A.all (cR C) ++ a.all, x < w0.heap.size
  nd : pb ≠ hb ∧ pb ≠ tb ∧ hb ≠ tb
  na : pb ∉ A.all (cR C) ++ a.all ∧ hb ∉ A.all (cR C) ++ a.all ∧ tb ∉ A.all (cR C) ++ a.all
  gr : Gr [pb, tb] w0 wr
theorem LgI.take (h : LgI w0 A a C gd F V N lim pb hb tb fr mv n v wr) : LgT w0 A a C gd F V N lim pb hb tb fr mv n v (wr.setCell ⟨tb, fr n, none⟩ (.bool true)) := by
  obtain ⟨cur, tk, q1, q2, q3⟩ := h.tks
  have gr : Gr [tb] wr (wr.setCell ⟨tb, fr n, none⟩ (.bool true)) := (Gr.refl [tb] wr).setCell (p := ⟨tb, fr n, none⟩) (.inl (by simp)) _
  refine ⟨h.fl.gr gr (fun x hx e => ?_), h.head.far (a := ⟨tb, fr n, none⟩) h.nd.2.1 _, own_gr h.own gr (fun b hb e => ?_), h.hts.far (a := ⟨tb, fr n, none⟩) h.nd.2.2 _, ⟨_, fun q => if q = fr n then true else tk q, q1.set (fr n) _, fun q hq => ?_, fun q hq => ?_⟩, h.lo, h.nd, h.na, h.gr.trans (gr.mono (by simp))⟩
  · have : x = tb := by simpa using e
    exact h.na.2.2 (this ▸ hx)
  · have h1 := (h.own.lt b hb).1
    have h2 := h.lo.2.2.1
    have : b = tb := by simpa using e
    omega
  · have v0 := q2 q hq
    have b0 := (Array.getElem?_eq_some_iff.1 v0).1
    rw [Array.getElem?_setIfInBounds]
    show _ = some (Value.bool (if q = fr n then true else tk q))
    by_cases e : q = fr n
    · rw [if_pos e.symm, if_pos e, if_pos (by omega)]
    · rw [if_neg (fun e2 => e e2.symm), if_neg e]
      exact v0
  · show (if q = fr n then true else tk q) = true ↔ _
    by_cases e : q = fr n
    · rw [if_pos e]
      exact ⟨fun _ => .inr ⟨n, by omega, e.symm⟩, fun _ => rfl⟩
    · rw [if_neg e, q3 q hq]
      constructor
      · rintro (x | ⟨g, hg, x⟩)
        · exact .inl x
        · exact .inr ⟨g, by omega, x⟩
      · rintro (x | ⟨g, hg, x⟩)
        · exact .inl x
        · refine .inr ⟨g, ?_, x⟩
          have : g ≠ n := fun e2 => e (by rw [← x, e2])
          omega
theorem LgT.snoc (h : LgT w0 A a C gd F V N lim pb hb tb fr mv n v w1) (g1 : Gr [] w1 w2) (hown : w6.ownsRow w0.heap.size 97 2 (.slice (some ⟨g, 0, none⟩) (n + 1) cp) (n + 1) (plL fr mv n ++ [.int .i64 (fr n : Int), .int .u32 (mv n : Int)]))
    (hg : w2.grownBy w6 v.ownBlock) : LgI w0 A a C gd F V N lim pb hb tb fr mv (n + 1) (.slice (some ⟨g, 0, none⟩) (n + 1) cp) (w6.setCell ⟨pb, 5, none⟩ (.slice (some ⟨g, 0, none⟩) (n + 1) cp)) := by
  have hlr : ∀ b, v.ownBlock = some b → w0.heap.size ≤ b ∧ b < w1.heap.size := fun b e => h.own.lt b e
  obtain ⟨l1, l2, l3, l4⟩ := h.lo
  obtain ⟨cur, tk, q1, q2, q3⟩ := h.tks
  have hG : Gr (v.ownBlock.toList ++ [pb]) w1 (w6.setCell ⟨pb, 5, none⟩ (.slice (some ⟨g, 0, none⟩) (n + 1) cp)) := (((g1.of0 (cs := v.ownBlock.toList ++ [pb])).trans ((gr_grown9 hg).mono fun b hb => List.mem_append.2 (.inl hb)))).setCell (p := ⟨pb, 5, none⟩) (.inl (by simp)) _
  have key : ∀ x, x < w0.heap.size → x ≠ pb → x ∉ v.ownBlock.toList ++ [pb] := fun x hx hn e => by
    rcases List.mem_append.1 e with e | e
    · have := (hlr x (by simpa using e)).1; omega
    · exact hn (by simpa using e)
  refine ⟨h.fl.gr hG (fun x hx => key x (l4 x hx) (fun e => h.na.1 (e ▸ hx))), ?_, ?_, h.hts.gr hG (key hb l2 (fun e => h.nd.1 e.symm)), ⟨cur, tk, q1.gr hG (key tb l3 (fun e => h.nd.2.1 e.symm)), q2, q3⟩, h.lo, h.nd, h.na, ?_⟩
  · have hd : Holds w6 pb (ldRow A C lim hb tb v) 103 := (h.head.gr0 g1).gr (gr_grown9 hg) (fun e => by have := (hlr pb (by simpa using e)).1; omega)
    exact hd.set 5 (.slice (some ⟨g, 0, none⟩) (n + 1) cp)
  · rw [plL_snoc]
    exact own_gr hown ((Gr.refl [pb] w6).setCell (p := ⟨pb, 5, none⟩) (.inl (by simp)) _) (fun b hb e => by have := (hown.lt b hb).1; simp at e; omega)
  · refine h.gr.nextN hG fun x hx => ?_
    rcases List.mem_append.1 hx with e | e
    · exact .inr (hlr x (by simpa using e)).1
    · have : x = pb := by simpa using e
      exact .inl (by simp [this])
end
end Go.Proofs.YtifekejcbhllpaaGreat
