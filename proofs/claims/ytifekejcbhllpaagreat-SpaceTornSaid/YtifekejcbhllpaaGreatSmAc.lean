/-
  SmAc: HuW, SqU.
-/
import Derived.Test.YtifekejcbhllpaaGreatSkAa
import Derived.Test.YtifekejcbhllpaaGreatSkAb
import Derived.Test.YtifekejcbhllpaaGreatSkAc
import Derived.Test.YtifekejcbhllpaaGreatSkAd
import Derived.Test.YtifekejcbhllpaaGreatSkAe
import Derived.Test.YtifekejcbhllpaaGreatSkAf
import Derived.Test.YtifekejcbhllpaaGreatSkAg
import Derived.Test.YtifekejcbhllpaaGreatSkAh
import Derived.Test.YtifekejcbhllpaaGreatSkAi
import Derived.Test.YtifekejcbhllpaaGreatSkAj
import Derived.Test.YtifekejcbhllpaaGreatSkAk
import Derived.Test.YtifekejcbhllpaaGreatSkAl
import Derived.Test.YtifekejcbhllpaaGreatSkAm
import Derived.Test.YtifekejcbhllpaaGreatSkAn
import Derived.Test.YtifekejcbhllpaaGreatSkAo
import Derived.Test.YtifekejcbhllpaaGreatSkAp
import Derived.Test.YtifekejcbhllpaaGreatSkAq
import Derived.Test.YtifekejcbhllpaaGreatSkAr
import Derived.Test.YtifekejcbhllpaaGreatSkAs
import Derived.Test.YtifekejcbhllpaaGreatSkAt
import Derived.Test.YtifekejcbhllpaaGreatSkAu
import Derived.Test.YtifekejcbhllpaaGreatSkAv
import Derived.Test.YtifekejcbhllpaaGreatSkAw
import Derived.Test.YtifekejcbhllpaaGreatSkAx
import Derived.Test.YtifekejcbhllpaaGreatSkAy
import Derived.Test.YtifekejcbhllpaaGreatSkAz
import Derived.Test.YtifekejcbhllpaaGreatSkBa
import Derived.Test.YtifekejcbhllpaaGreatSkBb
import Derived.Test.YtifekejcbhllpaaGreatSkBc
import Derived.Test.YtifekejcbhllpaaGreatSkBd
import Derived.Test.YtifekejcbhllpaaGreatSkBe
import Derived.Test.YtifekejcbhllpaaGreatSkBf
import Derived.Test.YtifekejcbhllpaaGreatSkBg
import Derived.Test.YtifekejcbhllpaaGreatSkBh
import Derived.Test.YtifekejcbhllpaaGreatSkBi
import Derived.Test.YtifekejcbhllpaaGreatSkBj
import Derived.Test.YtifekejcbhllpaaGreatSkBk
import Derived.Test.YtifekejcbhllpaaGreatSkBl
import Derived.Test.YtifekejcbhllpaaGreatSkBm
import Derived.Test.YtifekejcbhllpaaGreatSkBn
import Derived.Test.YtifekejcbhllpaaGreatSmAa
import Derived.Test.YtifekejcbhllpaaGreatSmAb
import Derived.Test.YtifekejcbhllpaaGreatRows
import Derived.WalkKit
import Derived.Handy
import Derived.Lib.Hide
import Derived.Lib.AppendStr
import Derived.Deep.QuietTactic
import Derived.BigQuiet
import Derived.KernelRfl
import Derived.Shelf.Strings.Repeat
import Derived.Ground.NamesProg
import Derived.Lib.Agree
import Derived.Deep.MidRow
import Derived.Deep.RegionHeld3

set_option linter.unusedVariables false

/-
  Layer 10: a word of a page's line is written, whatever comes.
-/
namespace Go.Proofs.YtifekejcbhllpaaGreat
open Go.RowKit
set_option linter.unusedVariables false

section
variable {w w' : World} {X : HtA} {A : FlA} {a : DevA} {C : CfgZ} {gd cm : Bool} {F F' : Nat → Nat → Nat} {V V' : FlV} {N N' lim : Nat} {S : HtS}
set_option maxRecDepth 100000 in
set_option maxHeartbeats 8000000 in
theorem gww1_any {rc kc vc : Nat} (h : HgIs w X A a C gd cm F V N lim S) (hN : N < 490000000) (g k : Nat) (hg : g < pgC C) (hk : k < 8) (kk v : Nat) (hs : kk < 8 ∧ v < 18446744073709551616) (r1 : w.cell? ⟨rc, 0, none⟩ = some (.pointer (some ⟨X.pb, 0, none⟩))) (s1 : w.cell? ⟨kc, 0, none⟩ = some (.int .i64 (kk : Int)) ∧ w.cell? ⟨vc, 0, none⟩ = some (.int .u64 (v : Int))) :
    Calls Tryz.prog 66 #[.int .i64 ((8 * S.fr g + k : Nat) : Int), .pointer (some ⟨rc, 0, none⟩), .pointer (some ⟨kc, 0, none⟩), .pointer (some ⟨vc, 0, none⟩)] w fun e w' => ∃ x : Int, e = .returned (.int .i64 x) ∧ WrP C X A a gd cm lim F S (fun l2 m => if l2 = 8 * S.fr g + k then updF (F (8 * S.fr g + k)) kk v m else F l2 m) (fun F' => ∃ H, (F' = fun l2 m => if l2 = 8 * S.fr g + k then H m else F l2 m) ∧ One2 (F (8 * S.fr g + k)) (updF (F (8 * S.fr g + k)) kk v) H) (N + 4200) x w' ∧ Gr (A.all (cR C) ++ a.all) w w' := by
  have hC := h.fl.ok
  obtain ⟨n1, n2, n3, n4, n5, n6⟩ := pg_nums hC h.pos
  have hf := h.inv.lt g hg
  have HW := Lib.hid (fun W (g1 : Gr [] w W) => (h.gr0 g1).fl.word hN (8 * S.fr g + k) kk v (by omega) hs.1 hs.2)
  have H := Lib.hid (And.intro h (show ∀ g2, g2 < pgC C → ¬ g2 / 8 = 8 * S.fr g + k from fun g2 h2 => by omega))
  obtain ⟨l, hl⟩ : ∃ l, l = 8 * S.fr g + k := ⟨_, rfl⟩
  rw [← hl] at HW H ⊢
  have k4 := kp_cell (a := ⟨X.pb, 0, none⟩) h.hc.1
  have kr := kp_cell r1
  have ks := kp_cell s1.1
  have kv := kp_cell s1.2
  have hne := kp_ne w
  clear h hC n1 n2 n3 n4 n5 n6 hf hl r1 s1
  go_enter Tryz.func66, Tryz.ntmps66
  go_wp2_with fail
  refine wp_region_kp_tail 7 (by kernel_rfl) (by kernel_rfl) ?_
  simp only [List.take_succ_cons, List.take_zero, List.drop_succ_cons, List.drop_zero]
  repeat (go_big_quiet_step (fail))
  with_reducible refine wpQuiet_nil ?_
  rintro _ ⟨y, rfl⟩
  have HG := Lib.hid (Gr.ofBelow (cs := []) y.h)
  clear k4 kr ks kv hne
  generalize y.w = w2 at *
  go_wp2_with fail
  refine (HW.out _ HG.out).mono ?_
  rintro e w3 ⟨x, rfl, f3, g3⟩
  have H3 := Lib.hid (And.intro (WrP.of (H.out.1.gr0 HG.out) g3 f3 (fun g2 h2 => by rw [if_neg (H.out.2 g2 h2)]) (by omega)) ((HG.out.of0 (cs := A.all (cR C) ++ a.all)).trans g3))
  clear f3 g3
  go_wp2_with fail
  go_ret
  exact ⟨x, rfl, H3.out.1, H3.out.2⟩
set_option maxRecDepth 100000 in
set_option maxHeartbeats 16000000 in
theorem gchangew_any {rc kc vc : Nat} (h : HgIs w X A a C gd cm F V N lim S) (hl : 1 ≤ lim) (hl2 : lim < 1000000) (hN : N < 400000000) (g k : Nat) (hg : g < pgC C) (hk : k < 8) (kk v : Nat) (hs : kk < 8 ∧ v < 18446744073709551616) (r1 : w.cell? ⟨rc, 0, none⟩ = some (.pointer (some ⟨X.pb, 0, none⟩))) (s1 : w.cell? ⟨kc, 0, none⟩ = some (.int .i64 (kk : Int)) ∧ w.cell? ⟨vc, 0, none⟩ = some (.int .u64 (v : Int))) (hrc : rc ∉ X.all ++ (A.all (cR C) ++ a.all)) (hkc : kc ∉ X.all ++ (A.all (cR C) ++ a.all)) (hvc : vc ∉ X.all ++ (A.all (cR C) ++ a.all)) :
    Calls Tryz.prog 63 #[.pointer (some ⟨X.pb, 0, none⟩), .int .i64 (g : Int), .int .i64 (k : Int), (.func (.func 66) #[] #[.pointer (some ⟨rc, 0, none⟩), .pointer (some ⟨kc, 0, none⟩), .pointer (some ⟨vc, 0, none⟩)])] w fun e w' => ∃ x : Int, e = .returned (.int .i64 x) ∧ HwP C X A a gd cm lim (ySee F S) (fun g2 k2 m => if g2 = g ∧ k2 = k then updF (ySee F S g k) kk v m else ySee F S g2 k2 m) (fun G => One2 (ySee F S g k) (updF (ySee F S g k) kk v) G) g k (N + 42000) x w' ∧ Gr (X.all ++ (A.all (cR C) ++ a.all)) w w' := by
  have HF0 := Lib.hid (gfind_in h g k hg hk)
  have H0 := Lib.hid h
  have HCl := Lib.hid (show w.cell? ⟨rc, 0, none⟩ = some (.pointer (some ⟨X.pb, 0, none⟩)) ∧ (w.cell? ⟨kc, 0, none⟩ = some (.int .i64 (kk : Int)) ∧ w.cell? ⟨vc, 0, none⟩ = some (.int .u64 (v : Int))) from ⟨r1, s1⟩)
  have HKp := Lib.hid (show ∀ (W W' : World), (W.cell? ⟨rc, 0, none⟩ = some (.pointer (some ⟨X.pb, 0, none⟩)) ∧ (W.cell? ⟨kc, 0, none⟩ = some (.int .i64 (kk : Int)) ∧ W.cell? ⟨vc, 0, none⟩ = some (.int .u64 (v : Int)))) → ∀ bs, Gr bs W W' → (∀ x ∈ bs, x ∈ X.all ++ (A.all (cR C) ++ a.all)) → (W'.cell? ⟨rc, 0, none⟩ = some (.pointer (some ⟨X.pb, 0, none⟩)) ∧ (W'.cell? ⟨kc, 0, none⟩ = some (.int .i64 (kk : Int)) ∧ W'.cell? ⟨vc, 0, none⟩ = some (.int .u64 (v : Int)))) from fun W W' q bs g hbs => by
    have hrc := fun e => hrc (hbs _ e)
    have hkc := fun e => hkc (hbs _ e)
    have hvc := fun e => hvc (hbs _ e)
    exact ⟨(cell_gr7 g (World.block_lt_of_cell? _ _ q.1) hrc).trans q.1, (cell_gr7 g (World.block_lt_of_cell? _ _ q.2.1) hkc).trans q.2.1, (cell_gr7 g (World.block_lt_of_cell? _ _ q.2.2) hvc).trans q.2.2⟩)
  have HP := Lib.hid (And.intro hg (And.intro hk (And.intro hs (And.intro hl (And.intro hl2 hN)))))
  have hht := h.htb g hg
  have hG7 : pgC C ≤ 2048 := by have := pg_nums h.fl.ok h.pos; omega
  obtain ⟨G, hG⟩ : ∃ G, G = pgC C := ⟨_, rfl⟩
  have HGG := Lib.hid hG
  obtain ⟨T, hT⟩ : ∃ T, T = S.ht g := ⟨_, rfl⟩
  have c6 := h.hc.2.2.2.2.2.1
  have c4 := h.hc.2.2.2.1
  obtain ⟨t0, t1⟩ := h.htAt hg
  rw [← hT] at t0 hht
  have HT := Lib.hid hT
  rw [← hG] at c6
  have g1 : (g : Int) < (G : Int) := by omega
  have g0 : (0 : Int) ≤ (g : Int) := by omega
  have k6 := kp_cell c6
  have k4 := kp_cell c4
  have kt := kp_cell t0
  have hne := kp_ne w
  clear h r1 s1 hrc hkc hvc hs hN hT t1 c6 c4 t0
  go_enter Tryz.func63, Tryz.ntmps63
  go_wp2_with fail
  refine HF0.out.mono ?_
  rintro e w2 ⟨rfl, rfl⟩
  go_upto_region 4 with fail
  refine wp_region_kp (by kernel_rfl) (by kernel_rfl) ?_
  repeat (go_big_quiet_step (fail))
  with_reducible refine wpQuiet_nil ?_
  rintro _ ⟨y, rfl⟩
  have gy := Lib.hid (Gr.ofBelow (cs := []) y.h)
  clear k6 k4 kt hne HF0
  generalize y.w = w3 at *
  clear y
  go_upto_if 36 with fail
  go_cut [11] (fun _ wz => ∃ (F1 : Nat → Nat → Nat) (V1 : FlV) (S1 : HtS), (S1.ht g < lim ∧ ∀ g2 k m, g2 < pgC C → k < 8 → F1 (8 * S1.fr g2 + k) m = F (8 * S.fr g2 + k) m) ∧ HgIs wz X A a C gd cm F1 V1 (N + 37800) lim S1 ∧ (wz.cell? ⟨rc, 0, none⟩ = some (.pointer (some ⟨X.pb, 0, none⟩)) ∧ (wz.cell? ⟨kc, 0, none⟩ = some (.int .i64 (kk : Int)) ∧ wz.cell? ⟨vc, 0, none⟩ = some (.int .u64 (v : Int)))) ∧ Gr (X.all ++ (A.all (cR C) ++ a.all)) w2 wz)
  case first =>
    by_cases hcm : lim ≤ T
    · as_aux_lemma =>
        have hcb : decide (lim ≤ T) = true := decide_eq_true hcm
        have HC := Lib.hid hcm
        have HEx := Lib.hid (gexam_any (H0.out.gr0 gy.out) (by have := HP.out.2.2.2.2.2; omega) g hg)
        clear hcm
        go_wp2_with fail
        refine HEx.out.mono ?_
        rintro e w5 ⟨x, S0, rfl, h5, t5, g5⟩
        have HG5 := Lib.hid ((gy.out.of0 (cs := X.all ++ (A.all (cR C) ++ a.all))).trans g5)
        have hcl5 := Lib.hid (HKp.out _ _ (HKp.out _ _ HCl.out _ gy.out (by simp)) _ g5 (fun x hx => hx))
        rcases h5 with ⟨rfl, F1, V1, h5, x5⟩ | ⟨rfl, hgd, F1, V1, h5, x5⟩ | ⟨rfl, hcx, h5⟩
        · have H5 := Lib.hid (And.intro h5 x5)
          have c6 : w5.cell? ⟨X.pb, 6, none⟩ = some (.slice (some ⟨X.hb, 0, none⟩) (pgC C) (pgC C)) := h5.hc.2.2.2.2.2.1
          rw [← HGG.out] at c6
          obtain ⟨t0, t1⟩ := h5.htAt hg
          generalize S0.ht g = T0 at *
          have HZ := Lib.hid (h5.setHt (g := g) 0 (Nat.zero_le _))
          have HZG := Lib.hid (show Gr [X.hb] w5 (w5.setCell ⟨X.hb, g, none⟩ (.int .i64 ((0 : Nat) : Int))) from (Gr.refl [X.hb] w5).setCell (p := ⟨X.hb, g, none⟩) (.inl (by simp)) _)
          clear h5 x5 g5 t5 HEx hcb
          go_wp2_with fail
          clear c6 t0 t1
          go_meet
          refine ⟨F1, V1, htS S0 g 0, ⟨?_, H5.out.2⟩, HZ.out, HKp.out _ _ hcl5.out _ HZG.out (fun x hx => by have : x = X.hb := (by simpa using hx); subst this; simp [HtA.all]), HG5.out.nextN HZG.out (fun x hx => by have : x = X.hb := (by simpa using hx); subst this; simp [HtA.all])⟩
          show updN S0.ht g 0 g < lim
          rw [updN_same]
          have := HP.out.2.2.2.1
          omega
        · have H5 := Lib.hid (And.intro hgd (And.intro h5 x5))
          clear h5 x5 g5 t5 HEx hcb hgd
          go_wp2_with fail
          go_ret
          exact ⟨10, rfl, .inr (.inl ⟨rfl, H5.out.1, F1, V1, S, H5.out.2.1.more (by omega), fun g2 k2 m h2 hk2 _ => H5.out.2.2 g2 k2 m h2 hk2⟩), HG5.out⟩
        · have H5 := Lib.hid (And.intro hcx h5)
          clear h5 g5 t5 HEx hcb hcx
          go_wp2_with fail
          go_ret
          refine ⟨6, rfl, .inr (.inr ⟨rfl, H5.out.1, (H5.out.2.imp fun F3 hF3 => ?_).more (by omega)⟩), HG5.out⟩
          exact ⟨ySee F S, fun _ _ _ _ _ _ _ => rfl, .inl fun _ _ => rfl, hF3.congr H0.out.fl.ok H0.out.pos (fun _ _ _ _ => rfl) (by omega) (fun _ _ _ _ _ _ => rfl)⟩
    · have hcb : decide (lim ≤ T) = false := decide_eq_false hcm
      have HC := Lib.hid hcm
      clear hcm
      go_wp2_with fail
      go_meet
      exact ⟨F, V, S, ⟨by rw [← HT.out]; have := HC.out; omega, fun _ _ _ _ _ => rfl⟩, (H0.out.gr0 gy.out).more (by omega), HKp.out _ _ HCl.out _ gy.out (by simp), gy.out.of0⟩
  case rest =>
    obtain ⟨F1, V1, S1, k1, k2, k3, k4⟩ := hcut
    obtain ⟨wy, hwy⟩ : ∃ wy, wy = wc := ⟨_, rfl⟩
    rw [← hwy] at k2 k3 k4 ⊢
    have HA := Lib.hid k1
    have H5 := Lib.hid (And.intro k2 (And.intro k3 k4))
    have HF1 := Lib.hid (gfind_in k2 g k hg hk)
    have HW1 := Lib.hid (gww1_any k2 (by have := HP.out.2.2.2.2.2; omega) g k hg hk kk v HP.out.2.2.1 k3.1 k3.2)
    have HNN := Lib.hid (pg_nums k2.fl.ok k2.pos)
    clear hwy k1 k2 k3 k4 gy HT HCl
    obtain ⟨l, hl0⟩ : ∃ l, l = 8 * S1.fr g + k := ⟨_, rfl⟩
    rw [← hl0] at HF1 HW1
    have HL := Lib.hid hl0
    clear hl0
    go_wp2_with fail
    refine HF1.out.mono ?_
    rintro e w6 ⟨rfl, rfl⟩
    go_wp2_with fail
    refine HW1.out.mono ?_
    rintro e w7 ⟨x, rfl, h7, g7⟩
    have HG7 := Lib.hid (H5.out.2.2.trans (g7.mono (fun x hx => List.mem_append.2 (.inr hx))))
    rcases h7 with ⟨rfl, V2, h7⟩ | ⟨rfl, hgd, V2, h7⟩ | ⟨rfl, hcx, h7⟩
    · obtain ⟨t0, t1⟩ := h7.htAt hg
      have c6 : w7.cell? ⟨X.pb, 6, none⟩ = some (.slice (some ⟨X.hb, 0, none⟩) (pgC C) (pgC C)) := h7.hc.2.2.2.2.2.1
      rw [← HGG.out] at c6
      have hlt := HA.out.1
      obtain ⟨T1, hT1⟩ : ∃ T1, T1 = S1.ht g := ⟨_, rfl⟩
      obtain ⟨T2, hT2⟩ : ∃ T2, T2 = S1.ht g + 1 := ⟨_, rfl⟩
      rw [← hT1] at t0
      have wt : IntKind.i64.wrap ((T1 : Int) + 1) = (T2 : Int) := by rw [show (T1 : Int) + 1 = (T2 : Int) by omega]; exact IntWalk.i64_in _ (by omega)
      have HZ := Lib.hid (h7.setHt (g := g) T2 (by omega))
      have HZG := Lib.hid (show Gr [X.hb] w7 (w7.setCell ⟨X.hb, g, none⟩ (.int .i64 (T2 : Int))) from (Gr.refl [X.hb] w7).setCell (p := ⟨X.hb, g, none⟩) (.inl (by simp)) _)
      have HI := Lib.hid h7.inv
      clear h7 g7 hT1 hT2 hlt HW1 HF1 H5
      go_wp2_with fail
      clear c6 t0 t1 wt
      go_ret
      refine ⟨0, rfl, .inl ⟨rfl, _, V2, _, HZ.out.more (by omega), fun g2 k2 m h2 hk2 hm => ?_⟩, HG7.out.nextN HZG.out (fun x hx => by have : x = X.hb := (by simpa using hx); subst this; simp [HtA.all])⟩
      show (if 8 * S1.fr g2 + k2 = l then updF (F1 l) kk v m else F1 (8 * S1.fr g2 + k2) m) = if g2 = g ∧ k2 = k then updF (ySee F S g k) kk v m else F (8 * S.fr g2 + k2) m
      rw [HL.out]
      by_cases e : g2 = g ∧ k2 = k
      · rw [if_pos e, if_pos (by rw [e.1, e.2])]
        exact updF_congr (HA.out.2 g k m hg hk)
      · rw [if_neg e, if_neg (fun e2 => e ?_), HA.out.2 g2 k2 m h2 hk2]
        have : S1.fr g2 = S1.fr g := by omega
        exact ⟨HI.out.inj g2 g h2 hg this, by omega⟩
    · have H7 := Lib.hid (And.intro hgd h7)
      clear h7 g7 hgd HW1 HF1 H5
      go_wp2_with fail
      go_ret
      exact ⟨10, rfl, .inr (.inl ⟨rfl, H7.out.1, F1, V2, S1, H7.out.2.more (by omega), fun g2 k2 m h2 hk2 _ => HA.out.2 g2 k2 m h2 hk2⟩), HG7.out⟩
    · have H7 := Lib.hid (And.intro hcx (And.intro h7 (And.intro H5.out.1.inv (H5.out.1.tbo (by have := HP.out.2.2.2.2.2; omega)))))
      have HMV := Lib.hid H5.out.1.mvb
      clear h7 g7 hcx HW1 HF1 H5
      go_wp2_with fail
      go_ret
      refine ⟨6, rfl, .inr (.inr ⟨rfl, H7.out.1, (H7.out.2.1.imp fun F3 hF3 => ?_).more (by omega)⟩), HG7.out⟩
      obtain ⟨H, rfl, hH⟩ := hF3
      have hlt := H7.out.2.2.1.lt g hg
      refine ⟨fun g2 k2 m => if g2 = g ∧ k2 = k then H m else F (8 * S.fr g2 + k2) m, fun g2 k2 m h2 hk2 hm hne => if_neg hne, ?_, S1.fr, S1.mv, H7.out.2.2.2.line H0.out.fl.ok H0.out.pos (by rw [HL.out]; omega) H, fun g2 h2 => by have := HMV.out g2 h2; omega, fun g2 k2 m h2 hk2 hm => ?_⟩
      · have hz : ∀ m, (if g = g ∧ k = k then H m else F (8 * S.fr g + k) m) = H m := fun m => if_pos ⟨rfl, rfl⟩
        rw [HL.out] at hH
        rcases hH with hH | hH
        · exact .inl fun m hm => (hz m).trans ((hH m hm).trans (HA.out.2 g k m hg hk))
        · exact .inr fun m hm => (hz m).trans ((hH m hm).trans (updF_congr (HA.out.2 g k m hg hk)))
      · show (if 8 * S1.fr g2 + k2 = l then H m else F1 (8 * S1.fr g2 + k2) m) = if g2 = g ∧ k2 = k then _ else F (8 * S.fr g2 + k2) m
        rw [HL.out]
        by_cases e : g2 = g ∧ k2 = k
        · rw [if_pos e, if_pos (by rw [e.1, e.2])]
        · rw [if_neg e, if_neg (fun e2 => e ?_), HA.out.2 g2 k2 m h2 hk2]
          have : S1.fr g2 = S1.fr g := by omega
          exact ⟨H7.out.2.2.1.inj g2 g h2 hg this, by omega⟩
theorem gwriteword_in (h : HgIs w X A a C gd cm F V N lim S) (hl : 1 ≤ lim) (hl2 : lim < 1000000) (hN : N < 400000000) (g k : Nat) (hg : g < pgC C) (hk : k < 8) (kk v : Nat) (hs : kk < 8 ∧ v < 18446744073709551616) :
    Calls Tryz.prog 41 #[.pointer (some ⟨X.pb, 0, none⟩), .int .i64 (g : Int), .int .i64 (k : Int), .int .i64 (kk : Int), .int .u64 (v : Int)] w fun e w' => ∃ x : Int, e = .returned (.int .i64 x) ∧ HwP C X A a gd cm lim (ySee F S) (fun g2 k2 m => if g2 = g ∧ k2 = k then updF (ySee F S g k) kk v m else ySee F S g2 k2 m) (fun G => One2 (ySee F S g k) (updF (ySee F S g k) kk v) G) g k (N + 42000) x w' ∧ Gr (X.all ++ (A.all (cR C) ++ a.all)) w w' := by
  have ga := (Gr.refl [] w).alloc (Obj.cells #[.pointer (some ⟨X.pb, 0, none⟩)] 26)
  have gb := (ga.alloc (Obj.cells #[.int .i64 (kk : Int)] 3)).alloc (Obj.cells #[.int .u64 (v : Int)] 22)
  have s1 : (w.alloc (Obj.cells #[.pointer (some ⟨X.pb, 0, none⟩)] 26)).heap.size = w.heap.size + 1 := World.size_alloc _ _
  have s2 : ((w.alloc (Obj.cells #[.pointer (some ⟨X.pb, 0, none⟩)] 26)).alloc (Obj.cells #[.int .i64 (kk : Int)] 3)).heap.size = w.heap.size + 1 + 1 := by rw [World.size_alloc, s1]
  have h1 := ((Holds.new w #[.pointer (some ⟨X.pb, 0, none⟩)] 26).alloc (Obj.cells #[.int .i64 (kk : Int)] 3)).alloc (Obj.cells #[.int .u64 (v : Int)] 22)
  have h2 := (Holds.new (w.alloc (Obj.cells #[.pointer (some ⟨X.pb, 0, none⟩)] 26)) #[.int .i64 (kk : Int)] 3).alloc (Obj.cells #[.int .u64 (v : Int)] 22)
  have h3 := Holds.new ((w.alloc (Obj.cells #[.pointer (some ⟨X.pb, 0, none⟩)] 26)).alloc (Obj.cells #[.int .i64 (kk : Int)] 3)) #[.int .u64 (v : Int)] 22
  rw [s1] at h2
  rw [s2] at h3
  have HC := Lib.hid (gchangew_any (rc := w.heap.size) (kc := w.heap.size + 1) (vc := w.heap.size + 1 + 1) (h.gr0 gb) hl hl2 hN g k hg hk kk v hs (h1.cell 0) ⟨h2.cell 0, h3.cell 0⟩ (fun e => by have := h.lt _ e; omega) (fun e => by have := h.lt _ e; omega) (fun e => by have := h.lt _ e; omega))
  have c0 := h1.cell 0
  have c1 := h2.cell 0
  have c2 := h3.cell 0
  have HG := Lib.hid gb
  have k1 : ¬ (kk : Int) < 0 := by omega
  have k2 : ¬ (8 : Int) ≤ (kk : Int) := by omega
  have k3 : decide (8 ≤ kk) = false := decide_eq_false (by omega)
  clear h hl hl2 hN hg hk hs ga gb h1 h2 h3 s1 s2
  go_enter Tryz.func41, Tryz.ntmps41
  go_upto_region 1 with fail
  generalize (((w.alloc (Obj.cells #[.pointer (some ⟨X.pb, 0, none⟩)] 26)).alloc (Obj.cells #[.int .i64 (kk : Int)] 3)).alloc (Obj.cells #[.int .u64 (v : Int)] 22)) = w1 at *
  go_wp2_with fail
  refine HC.out.mono ?_
  rintro e w2 ⟨x, rfl, q1, q4⟩
  have HZ := Lib.hid (And.intro q1 ((HG.out.of0 (cs := X.all ++ (A.all (cR C) ++ a.all))).trans q4))
  clear q1 q4 HC
  go_wp2_with fail
  go_ret
  exact ⟨x, rfl, HZ.out.1, HZ.out.2⟩
variable {Y : Nat → Nat → Nat → Nat}
def putQ (Y : Nat → Nat → Nat → Nat) (g k kk v : Nat) : Nat → Nat → Nat → Nat := fun g2 k2 m => if g2 = g ∧ k2 = k then updF (Y g k) kk v m else Y g2 k2 m
theorem HLg.word (h : HLg C X A a gd cm lim Y N w) (hN : N < 400000000) (g k : Nat) (hg : g < pgC C) (hk : k < 8) (kk v : Nat) (hs : kk < 8 ∧ v < 18446744073709551616) :
    Calls Tryz.prog 41 #[.pointer (some ⟨X.pb, 0, none⟩), .int .i64 (g : Int), .int .i64 (k : Int), .int .i64 (kk : Int), .int .u64 (v : Int)] w fun e w' => ∃ x : Int, e = .returned (.int .i64 x) ∧ ((x = 0 ∧ HLg C X A a gd cm lim (putQ Y g k kk v) (N + 42000) w') ∨ (x = 10 ∧ gd = false ∧ HLg C X A a gd cm lim Y (N + 42000) w') ∨ (x = 6 ∧ cm = false ∧ HLo C a gd Y (fun G => One2 (Y g k) (updF (Y g k) kk v) G) g k (N + 42000) w')) ∧ Gr (X.all ++ (A.all (cR C) ++ a.all)) w w' := by
  obtain ⟨l1, l2, F, V, S, h1, h2⟩ := h
  refine (gwriteword_in h1 l1 l2 hN g k hg hk kk v hs).mono ?_
  rintro e w2 ⟨x, rfl, hx, g2⟩
  refine ⟨x, rfl, ?_, g2⟩
  rcases hx with ⟨e, F', V', S', q1, q2⟩ | ⟨e, hgd, F', V', S', q1, q2⟩ | ⟨e, hc, f⟩
  · refine .inl ⟨e, l1, l2, F', V', S', q1, fun g3 k3 m h3 hk3 hm => ?_⟩
    refine (q2 g3 k3 m h3 hk3 hm).trans ?_
    show (if g3 = g ∧ k3 = k then updF (ySee F S g k) kk v m else F (8 * S.fr g3 + k3) m) = if g3 = g ∧ k3 = k then updF (Y g k) kk v m else Y g3 k3 m
    split
    · exact updF_congr (h2 g k m hg hk hm)
    · exact h2 g3 k3 m h3 hk3 hm
  · exact .inr (.inl ⟨e, hgd, l1, l2, F', V', S', q1, fun g3 k3 m h3 hk3 hm => (q2 g3 k3 m h3 hk3 hm).trans (h2 g3 k3 m h3 hk3 hm)⟩)
  · refine .inr (.inr ⟨e, hc, f.imp fun F3 hF3 => ?_⟩)
    obtain ⟨Z, z1, z2, z3⟩ := hF3
    refine ⟨Z, fun g3 k3 m h3 hk3 hm hne => (z1 g3 k3 m h3 hk3 hm hne).trans (h2 g3 k3 m h3 hk3 hm), ?_, z3⟩
    rcases z2 with z2 | z2
    · exact .inl fun m hm => (z2 m hm).trans (h2 g k m hg hk hm)
    · exact .inr fun m hm => (z2 m hm).trans (updF_congr (h2 g k m hg hk hm))
end
end Go.Proofs.YtifekejcbhllpaaGreat

/-
  SpaceTorn: a fuse, what a Boot leaves, bytes opened behind it; words.
-/
namespace Go.Proofs.YtifekejcbhllpaaGreat
open Go.RowKit
set_option linter.unusedVariables false

/-- The list of bools that Boot is given. -/
structure Kb (g cap : Nat) (kf : Nat → Bool) (W : World) : Prop where
  cells : ∀ j, j < 16 → W.cell? ⟨g, j, none⟩ = some (.bool (kf j))
  lt : g < W.heap.size
  cp : 16 ≤ maxLen
theorem Kb.gr {g cap : Nat} {kf : Nat → Bool} {W W' : World} {bs : List Nat} (h : Kb g cap kf W) (k : Gr bs W W') (hn : g ∉ bs) : Kb g cap kf W' :=
  ⟨fun j hj => (World.cell?_of_block (w := W) (k.block g h.lt hn)).trans (h.cells j hj), Nat.lt_of_lt_of_le h.lt k.size, h.cp⟩
theorem Kb.keep {g cap : Nat} {kf : Nat → Bool} {W : World} (h : Kb g cap kf W) : KeepIs W (.slice (some ⟨g, 0, none⟩) 16 cap) 16 (fun j => if j < 16 then kf j else false) :=
  ⟨some ⟨g, 0, none⟩, cap, rfl, fun j hj => ⟨g, 0, rfl, h.lt, by rw [Nat.zero_add, h.cells j hj]; show _ = some (Value.bool (if j < 16 then kf j else false)); rw [if_pos hj]⟩, fun j hj => if_neg (by omega), h.cp⟩
theorem keep_of16 {w0 w1 : World} {v : Value} {kf : Nat → Bool} (h : w1.ownsRow w0.heap.size 4 1 v 16 ((List.range 16).map fun j => .bool (kf j))) : ∃ g cap, v = .slice (some ⟨g, 0, none⟩) 16 cap ∧ w0.heap.size ≤ g ∧ Kb g cap kf w1 := by
  have hcells := fun g (hg : v.ownBlock = some g) => h.cells hg
  have hlow := fun g (hg : v.ownBlock = some g) => h.lt g hg
  rcases h.2 with ⟨_, h0⟩ | ⟨g, cap, cur, rfl, hg, hh, _⟩
  · omega
  · refine ⟨g, cap, rfl, (hlow g rfl).1, fun j hj => ?_, (Array.getElem?_eq_some_iff.1 hh).1, by unfold maxLen; omega⟩
    have := hcells g rfl j (.bool (kf j)) (by rw [List.getElem?_map, List.getElem?_range hj]; rfl)
    rw [addp] at this
    rw [← this]
/-- Lines of words, one after the other. -/
noncomputable def jnY (Z : Nat → Nat → Nat → Nat) : Nat → ByteArray
  | 0 => ⟨#[]⟩
  | n + 1 => jnY Z n ++ tY Z (n / 8) (n % 8)
theorem jnY_size {Z : Nat → Nat → Nat → Nat} : ∀ n, (∀ L, L < n → (tY Z (L / 8) (L % 8)).size = 64) → (jnY Z n).size = 64 * n
  | 0, _ => rfl
  | n + 1, h => by
    rw [jnY, ByteArray.size_append, jnY_size n fun L hL => h L (by omega), h n (by omega)]
    omega
theorem jnY_line {Z : Nat → Nat → Nat → Nat} : ∀ n, (∀ L, L < n → (tY Z (L / 8) (L % 8)).size = 64) → ∀ L, L < n → lnQ (jnY Z n) L = tY Z (L / 8) (L % 8)
  | 0, _, L, hL => by omega
  | n + 1, h, L, hL => by
    have s1 := jnY_size n fun L hL => h L (by omega)
    have s2 := h n (by omega)
    have s3 : (jnY Z (n + 1)).size = 64 * (n + 1) := jnY_size (n + 1) h
    have hLs := h L hL
    by_cases c : L = n
    · subst c
      unfold lnQ
      refine bs_ext (by rw [ByteArray.size_extract]; omega) fun i hi => ?_
      rw [ByteArray.size_extract] at hi
      rw [bs_extract _ _ _ _ (by omega), jnY, bs_append, s1, if_neg (by omega)]
      congr 1
      omega
    · rw [← jnY_line n (fun L hL => h L (by omega)) L (by omega)]
      unfold lnQ
      refine bs_ext (by rw [ByteArray.size_extract, ByteArray.size_extract]; omega) fun i hi => ?_
      rw [ByteArray.size_extract] at hi
      rw [bs_extract _ _ _ _ (by omega), bs_extract _ _ _ _ (by omega), jnY, bs_append, s1, if_pos (by omega)]
section
variable {w w' : World} {X : HtA} {A : FlA} {a : DevA} {C : CfgZ} {gd cm : Bool} {N N' lim sb : Nat} {B : ByteArray}
theorem HSp.fuse (h : HSp C X A a gd true lim sb B N w) (z : Int) (hz : z ≤ 9223372036854775807) :
    Calls Tryz.prog 23 #[.pointer (some ⟨a.bd, 0, none⟩), .int .i64 z] w fun e w' => e = .returned (.tuple #[]) ∧ HSp C X A a gd false lim sb B N w' ∧ Gr a.all w w' := by
  obtain ⟨Y, h1, h2⟩ := h.st
  refine (h1.fuse z hz).mono ?_
  rintro e w2 ⟨rfl, q, g⟩
  exact ⟨rfl, ⟨⟨Y, q, h2⟩, h.sz, h.hd.gr g (fun e => h.na (List.mem_append.2 (.inr (List.mem_append.2 (.inr e))))), h.na, h.pg⟩, g⟩
/-- What a Boot leaves of a write: each word is one of both; of a write that was done, the new. -/
def TornB (C : CfgZ) (B U : ByteArray) (x : Int) (N : Nat) (F' : Nat → Nat → Nat) : Prop :=
  ∃ Z : Nat → Nat → Nat → Nat, PgY C Z N F' ∧ (∀ g k m, g < pgC C → k < 8 → m < 8 → Z g k m = wdL (lnQ B (8 * g + k)).data.toList m ∨ Z g k m = wdL (lnQ U (8 * g + k)).data.toList m) ∧ (x = 0 → ∀ g k m, g < pgC C → k < 8 → m < 8 → Z g k m = wdL (lnQ U (8 * g + k)).data.toList m)
theorem HSp.off (h : HSp C X A a gd cm lim sb B N w) (hN : N < 4294967296) : FLo C a gd (fun F' => ∃ Z, PgY C Z N F' ∧ ∀ g k m, g < pgC C → k < 8 → m < 8 → Z g k m = wdL (lnQ B (8 * g + k)).data.toList m) N w := by
  obtain ⟨Y, h1, h2⟩ := h.st
  refine (h1.off hN).imp fun F3 hF => ⟨Y, hF, fun g k m hg hk hm => ?_⟩
  rw [← h2 g k hg hk]
  exact ((h1.text g k hg hk).2.1 m hm).symm
theorem HSp.writeT (h : HSp C X A a true cm lim sb B N w) (K : Nat) (b : ByteArray) (hb : K + b.size ≤ B.size) (hN : N + 42000 * b.size < 400000000) :
    Calls Tryz.prog 11 #[.pointer (some ⟨sb, 0, none⟩), .int .i64 (K : Int), .string b] w fun e w' => ∃ x : Int, e = .returned (.int .i64 x) ∧ ((x = 0 ∨ x = 6) ∧ FLo C a true (TornB C B (splB B K b) x (N + 42000 * b.size)) (N + 42000 * b.size) w') ∧ Gr (X.all ++ (A.all (cR C) ++ a.all)) w w' := by
  refine (spwriteT_in h K b hb hN).mono ?_
  rintro e w2 ⟨x, rfl, hx, g2⟩
  refine ⟨x, rfl, ?_, g2⟩
  rcases hx with ⟨rfl, q⟩ | ⟨_, e, _⟩ | ⟨rfl, _, q⟩
  · refine ⟨.inl rfl, (q.off (by omega)).imp fun F3 hF => ?_⟩
    obtain ⟨Z, z1, z2⟩ := hF
    exact ⟨Z, z1, fun g k m hg hk hm => .inr (z2 g k m hg hk hm), fun _ => z2⟩
  · exact absurd e (by decide)
  · refine ⟨.inr rfl, q.imp fun F3 hF => ?_⟩
    obtain ⟨Z, z1, z2⟩ := hF
    exact ⟨Z, z1, z2, fun e => by omega⟩
/-- Bytes are opened behind a Boot. -/
theorem openT {D : DevS} {Bb : Nat → BkS} {j : Nat → Nat} {F : Nat → Nat → Nat} {V : FlV} {Z : Nat → Nat → Nat → Nat} {M : Nat} (hC : OkC C) (hp : 0 < pgC C) (pg : pgC C ≤ 2048) (hf : FlD C true F V N D Bb j) (hy : PgY C Z M F) (hM : M ≤ N) (hd : DevIs w a D) (hN : N < 490000000) :
    ∃ B3 : ByteArray, B3.size = 512 * pgC C ∧ (∀ g k m, g < pgC C → k < 8 → m < 8 → wdL (lnQ B3 (8 * g + k)).data.toList m = Z g k m) ∧ Calls Tryz.prog 17 #[.pointer (some ⟨a.bd, 0, none⟩)] w fun e w' => ∃ (X : HtA) (A : FlA) (sb : Nat), e = .returned (.tuple #[.pointer (some ⟨sb, 0, none⟩), .pointer (some ⟨X.pb, 0, none⟩), .bool true]) ∧ HSp C X A a true true 3 sb B3 N w' ∧ (∀ x ∈ sb :: (X.all ++ A.all (cR C)), w.heap.size ≤ x) ∧ Gr [] w w' := by
  obtain ⟨n1, n2, n3, n4, n5, n6⟩ := pg_nums hC hp
  have hyy := hy
  obtain ⟨fr, mv, t, m, y⟩ := hy
  have ht : ∀ g k, g < pgC C → k < 8 → (tY Z g k).size = 64 ∧ ∀ m, m < 8 → wdL (tY Z g k).data.toList m = Z g k m := fun g k hg hk => by
    have hl := t.lt g hg
    obtain ⟨_, r1, r2⟩ := hf.read hC hd.ok.medB (l := 8 * fr g + k) (by omega)
    have e := tY_is (Y := Z) (g := g) (k := k) r1 fun m hm => (r2 m hm).trans (y g k m hg hk hm)
    rw [e]
    exact ⟨r1, fun m hm => (r2 m hm).trans (y g k m hg hk hm)⟩
  have hs : ∀ L, L < 8 * pgC C → (tY Z (L / 8) (L % 8)).size = 64 := fun L hL => (ht _ _ (by omega) (by omega)).1
  have hz := jnY_size (Z := Z) (8 * pgC C) hs
  have hln : ∀ g k, g < pgC C → k < 8 → lnQ (jnY Z (8 * pgC C)) (8 * g + k) = tY Z g k := fun g k hg hk => by
    rw [jnY_line (8 * pgC C) hs (8 * g + k) (by omega), show (8 * g + k) / 8 = g by omega, show (8 * g + k) % 8 = k by omega]
  refine ⟨jnY Z (8 * pgC C), by omega, fun g k m hg hk hm => ?_, open11 (Y := Z) ((hopen_Y (lim := 3) hC hp hf hyy hM hd hN (by omega) (by omega)).mono ?_) (by omega) pg fun g k hg hk => (hln g k hg hk).symm⟩
  · rw [hln g k hg hk]
    exact (ht g k hg hk).2 m hm
  · rintro e w2 ⟨X, A, rfl, q, n, g⟩
    exact ⟨X, A, rfl, q.any, n, g⟩
/-- The error of a word's place, where it is one. -/
theorem word_in (h : HSp C X A a gd cm lim sb B N w) (q : Nat) (hq : 8 * q + 8 ≤ B.size) : Calls Tryz.prog 40 #[.pointer (some ⟨sb, 0, none⟩), .int .i64 ((8 * q : Nat) : Int)] w fun e w' => e = .returned (.int .i64 0) ∧ w' = w := by
  have HW := Lib.hid (within_any h ((8 * q : Nat) : Int) 8)
  have he : errW B.size ((8 * q : Nat) : Int) 8 = 0 := if_neg (by omega)
  rw [he] at HW
  obtain ⟨k, hk⟩ : ∃ k, k = 8 * q := ⟨_, rfl⟩
  rw [← hk] at HW ⊢
  have hk2 := h.sz
  have hk3 := h.pg
  have t1 : (k : Int).tmod 8 = 0 := by rw [Int.tmod_eq_emod_of_nonneg (by omega)]; omega
  have t2 : IntKind.i64.wrap 0 = 0 := IntWalk.i64_in _ (by omega)
  clear h he hq hk hk2 hk3
  go_enter Tryz.func40, Tryz.ntmps40
  go_wp2_with fail
  refine HW.out.mono ?_
  rintro e w2 ⟨rfl, rfl⟩
  go_wp2_with fail
  go_ret
  exact ⟨rfl, rfl⟩
theorem spword_in (h : HSp C X A a gd cm lim sb B N w) (q : Nat) (hq : 8 * q + 8 ≤ B.size) : Calls Tryz.prog 14 #[.pointer (some ⟨sb, 0, none⟩), .int .i64 ((8 * q : Nat) : Int)] w fun e w' => e = .returned (.tuple #[.int .u64 ((wdL (lnQ B (q / 8)).data.toList (q % 8) : Nat) : Int), .int .i64 0]) ∧ Gr [] w w' := by
  have HW := Lib.hid (word_in h q hq)
  have hsz := h.sz
  have HLi := Lib.hid (spline_any h (8 * q) (by omega))
  rw [show 8 * q / 64 = q / 8 by omega] at HLi
  have hT := lnQ_size h (L := q / 8) (by omega)
  obtain ⟨T, hTT⟩ : ∃ T, T = lnQ B (q / 8) := ⟨_, rfl⟩
  rw [← hTT] at HLi hT ⊢
  have HGt := Lib.hid (fun W => get_at T hT (q % 8) (Nat.mod_lt _ (by omega)) W)
  obtain ⟨v, hv⟩ : ∃ v, v = wdL T.data.toList (q % 8) := ⟨_, rfl⟩
  rw [← hv] at HGt ⊢
  obtain ⟨k, hk⟩ : ∃ k, k = 8 * q := ⟨_, rfl⟩
  obtain ⟨f, hf⟩ : ∃ f, f = 8 * (q % 8) := ⟨_, rfl⟩
  rw [← hk] at HW HLi ⊢
  rw [← hf, hT] at HGt
  have t1 : (k : Int).tmod 64 = (f : Int) := by rw [Int.tmod_eq_emod_of_nonneg (by omega)]; omega
  have t2 : IntKind.i64.wrap (f : Int) = (f : Int) := IntWalk.i64_in _ (by omega)
  have l1 : (f : Int) ≤ 64 := by omega
  have l2 : f ≤ 64 := by omega
  have l0 : (0 : Int) ≤ (f : Int) := by omega
  clear h hsz hq hTT hv hk hf
  go_enter Tryz.func14, Tryz.ntmps14
  go_wp2_with fail
  refine HW.out.mono ?_
  rintro e w2 ⟨rfl, rfl⟩
  go_wp2_with fail
  refine HLi.out.mono ?_
  rintro e w3 ⟨rfl, g3⟩
  have HG := Lib.hid g3
  clear g3
  go_wp2_with fail
  refine (HGt.out _).mono ?_
  rintro e w4 ⟨rfl, rfl⟩
  go_wp2_with fail
  go_ret2
  exact ⟨rfl, HG.out⟩
/-- A word is written, the power failing or not: it is one of both. -/
theorem spww_in (h : HSp C X A a true false lim sb B N w) (q v : Nat) (hq : 8 * q + 8 ≤ B.size) (hv : v < 18446744073709551616) (hN : N < 400000000) : Calls Tryz.prog 13 #[.pointer (some ⟨sb, 0, none⟩), .int .i64 ((8 * q : Nat) : Int), .int .u64 (v : Int)] w fun e w' => ∃ x : Int, e = .returned (.int .i64 x) ∧ ((x = 0 ∨ x = 6) ∧ FLo C a true (fun F' => ∃ Z, PgY C Z (N + 42000) F' ∧ (Z (q / 64) (q % 64 / 8) (q % 8) = v ∨ (x = 6 ∧ Z (q / 64) (q % 64 / 8) (q % 8) = wdL (lnQ B (q / 8)).data.toList (q % 8)))) (N + 42000) w') ∧ Gr (X.all ++ (A.all (cR C) ++ a.all)) w w' := by
  have HW := Lib.hid (word_in h q hq)
  have hsz := h.sz
  have hpg := h.pg
  have c0 := h.hd.cell 0
  obtain ⟨Y, h1, h2⟩ := h.st
  have hg : q / 64 < pgC C := by omega
  have hr : q % 64 / 8 < 8 := by omega
  have hm : q % 8 < 8 := by omega
  have HSt := Lib.hid (fun W => spot_any (8 * q) (by omega) W)
  rw [show 8 * q / 512 = q / 64 by omega, show 8 * q % 512 / 64 = q % 64 / 8 by omega] at HSt
  have hold : Y (q / 64) (q % 64 / 8) (q % 8) = wdL (lnQ B (q / 8)).data.toList (q % 8) := by
    have e := (h1.text _ _ hg hr).2.1 _ hm
    rw [h2 _ _ hg hr, show 8 * (q / 64) + q % 64 / 8 = q / 8 by omega] at e
    exact e.symm
  have HPt := Lib.hid ((h1.word hN (q / 64) (q % 64 / 8) hg hr (q % 8) v ⟨hm, hv⟩).mono (R' := fun e w' => ∃ x : Int, e = .returned (.int .i64 x) ∧ ((x = 0 ∨ x = 6) ∧ FLo C a true (fun F' => ∃ Z, PgY C Z (N + 42000) F' ∧ (Z (q / 64) (q % 64 / 8) (q % 8) = v ∨ (x = 6 ∧ Z (q / 64) (q % 64 / 8) (q % 8) = wdL (lnQ B (q / 8)).data.toList (q % 8)))) (N + 42000) w') ∧ Gr (X.all ++ (A.all (cR C) ++ a.all)) w w') (by
    rintro e w2 ⟨x, rfl, hx, g2⟩
    refine ⟨x, rfl, ?_, g2⟩
    rcases hx with ⟨rfl, z⟩ | ⟨_, e, _⟩ | ⟨rfl, _, z⟩
    · refine ⟨.inl rfl, (z.off (by omega)).imp fun F3 hF => ⟨_, hF, .inl ?_⟩⟩
      unfold putQ updF
      rw [if_pos ⟨rfl, rfl⟩, if_pos rfl]
    · exact absurd e (by decide)
    · refine ⟨.inr rfl, FLo.imp z fun F3 hF => ?_⟩
      obtain ⟨Z, z1, z2, z3⟩ := hF
      refine ⟨Z, z3, ?_⟩
      rcases z2 with z2 | z2
      · exact .inr ⟨rfl, (z2 _ hm).trans hold⟩
      · refine .inl ((z2 _ hm).trans ?_)
        unfold updF
        rw [if_pos rfl]))
  generalize wdL (lnQ B (q / 8)).data.toList (q % 8) = old at *
  have t1 : ((8 * q : Nat) : Int).tmod 64 = ((8 * (q % 8) : Nat) : Int) := by rw [Int.tmod_eq_emod_of_nonneg (by omega)]; omega
  obtain ⟨g1, hg1⟩ : ∃ x, x = q / 64 := ⟨_, rfl⟩
  obtain ⟨k1, hk1⟩ : ∃ x, x = q % 64 / 8 := ⟨_, rfl⟩
  obtain ⟨m1, hm1⟩ : ∃ x, x = q % 8 := ⟨_, rfl⟩
  rw [← hg1, ← hk1] at HSt
  rw [← hg1, ← hk1, ← hm1] at HPt ⊢
  obtain ⟨m8, hm8⟩ : ∃ x, x = 8 * (q % 8) := ⟨_, rfl⟩
  rw [← hm8] at t1
  obtain ⟨k8, hk8⟩ : ∃ x, x = 8 * q := ⟨_, rfl⟩
  rw [← hk8] at HW HSt t1 ⊢
  have t2 : IntKind.i64.wrap (m8 : Int) = (m8 : Int) := IntWalk.i64_in _ (by omega)
  have t3 : (m8 : Int).tdiv 8 = (m1 : Int) := (Int.ofNat_tdiv m8 8).symm.trans (by omega)
  have t4 : IntKind.i64.wrap (m1 : Int) = (m1 : Int) := IntWalk.i64_in _ (by omega)
  clear h h1 h2 hsz hpg hg hr hm hold hg1 hk1 hm1 hm8 hk8 hq
  go_enter Tryz.func13, Tryz.ntmps13
  go_wp2_with fail
  refine HW.out.mono ?_
  rintro e w2 ⟨rfl, rfl⟩
  go_wp2_with fail
  refine (HSt.out _).mono ?_
  rintro e w3 ⟨rfl, rfl⟩
  go_wp2_with fail
  refine HPt.out.mono ?_
  rintro e w4 ⟨x, rfl, q4, g4⟩
  have H4 := Lib.hid (And.intro q4 g4)
  clear q4 g4 HPt
  go_wp2_with fail
  go_ret
  exact ⟨x, rfl, H4.out⟩
end
end Go.Proofs.YtifekejcbhllpaaGreat
