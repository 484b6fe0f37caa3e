/-
  HpAd: HuG, HuH.
-/
import Derived.Test.YtefmbchebobceaaGreatHkAa
import Derived.Test.YtefmbchebobceaaGreatHkAb
import Derived.Test.YtefmbchebobceaaGreatHkAc
import Derived.Test.YtefmbchebobceaaGreatHkAd
import Derived.Test.YtefmbchebobceaaGreatHkAe
import Derived.Test.YtefmbchebobceaaGreatHkAf
import Derived.Test.YtefmbchebobceaaGreatHkAg
import Derived.Test.YtefmbchebobceaaGreatHkAh
import Derived.Test.YtefmbchebobceaaGreatHkAi
import Derived.Test.YtefmbchebobceaaGreatHkAj
import Derived.Test.YtefmbchebobceaaGreatHkAk
import Derived.Test.YtefmbchebobceaaGreatHkAl
import Derived.Test.YtefmbchebobceaaGreatHkAm
import Derived.Test.YtefmbchebobceaaGreatHkAn
import Derived.Test.YtefmbchebobceaaGreatHkAo
import Derived.Test.YtefmbchebobceaaGreatHkAp
import Derived.Test.YtefmbchebobceaaGreatHkAq
import Derived.Test.YtefmbchebobceaaGreatHkAr
import Derived.Test.YtefmbchebobceaaGreatHkAs
import Derived.Test.YtefmbchebobceaaGreatHkAt
import Derived.Test.YtefmbchebobceaaGreatHkAu
import Derived.Test.YtefmbchebobceaaGreatHkAv
import Derived.Test.YtefmbchebobceaaGreatHkAw
import Derived.Test.YtefmbchebobceaaGreatHkAx
import Derived.Test.YtefmbchebobceaaGreatHkAy
import Derived.Test.YtefmbchebobceaaGreatHkAz
import Derived.Test.YtefmbchebobceaaGreatHkBa
import Derived.Test.YtefmbchebobceaaGreatHkBb
import Derived.Test.YtefmbchebobceaaGreatHkBc
import Derived.Test.YtefmbchebobceaaGreatHkBd
import Derived.Test.YtefmbchebobceaaGreatHkBe
import Derived.Test.YtefmbchebobceaaGreatHkBf
import Derived.Test.YtefmbchebobceaaGreatHkBg
import Derived.Test.YtefmbchebobceaaGreatHkBh
import Derived.Test.YtefmbchebobceaaGreatHkBi
import Derived.Test.YtefmbchebobceaaGreatHkBj
import Derived.Test.YtefmbchebobceaaGreatHkBk
import Derived.Test.YtefmbchebobceaaGreatHpAc
import Derived.Test.YtefmbchebobceaaGreatHpAb
import Derived.Test.YtefmbchebobceaaGreatRows
import Derived.WalkKit
import Derived.Handy
import Derived.Lib.Hide
import Derived.Lib.AppendStr
import Derived.Deep.QuietTactic
import Derived.BigQuiet
import Derived.KernelRfl

set_option linter.unusedVariables false

/-
  Layer 10: the coolest free frame of pages at work, whatever comes.
-/
namespace Go.Proofs.YtefmbchebobceaaGreat
open Go.RowKit
set_option linter.unusedVariables false

section
variable {w w' : World} {X : HtA} {A : FlA} {a : DevA} {C : CfgZ} {F : Nat → Nat → Nat} {V : FlV} {gd cm : Bool} {N lim : Nat} {S : HtS}
theorem HgIs.free (h : HgIs w X A a C gd cm F V N lim S) : 1 ≤ (freeL S.tk (frmC C)).length := by
  obtain ⟨n1, n2, n3, n4, n5, n6⟩ := pg_nums h.fl.ok h.pos
  have hR := h.fl.ok.nums.2.2.1
  have hex : ∃ q, q < frmC C ∧ S.tk q = false := by
    refine Classical.byContradiction fun hc => ?_
    have := pigeon10 (pgC C) S.fr (frmC C) (tbC C) (fun q hq => (h.inv.tk q hq).1 (by
      cases e : S.tk q with
      | true => rfl
      | false => exact absurd ⟨q, hq, e⟩ hc))
    omega
  obtain ⟨q, h1, h2⟩ := hex
  have hm := freeL_mem.2 ⟨h1, h2⟩
  cases e : freeL S.tk (frmC C) with
  | nil => rw [e] at hm; simp at hm
  | cons x t => simp
set_option maxRecDepth 100000 in
set_option maxHeartbeats 16000000 in
theorem gcool_any (h : HgIs w X A a C gd cm F V N lim S) : Calls Tryz.prog 164 #[.pointer (some ⟨X.pb, 0, none⟩)] w fun e w' => ∃ q, q < frmC C ∧ S.tk q = false ∧ (∀ q2, q2 < frmC C → S.tk q2 = false → keyQ10 C V.J q ≤ keyQ10 C V.J q2) ∧ e = .returned (.tuple #[.agg #[.int .i64 (q : Int), .int .u32 (V.J (qL C (8 * q)) : Int)], .bool true]) ∧ Gr [] w w' := by
  have HFR := Lib.hid h.free
  obtain ⟨n1, n2, n3, n4, n5, n6⟩ := pg_nums h.fl.ok h.pos
  have HSp := Lib.hid (fun W (g : Gr [] w W) (q : Nat) (hq : q < frmC C) => gspot_any (h.gr0 g) q hq)
  have HTk := Lib.hid (fun W (g : Gr [] w W) => show W.cell? ⟨X.pb, 7, none⟩ = some (.slice (some ⟨X.tb, 0, none⟩) (frmC C) (frmC C)) ∧ ∀ q, q < frmC C → W.cell? ⟨X.tb, q, none⟩ = some (.bool (S.tk q)) from ⟨(h.gr0 g).hc.2.2.2.2.2.2, fun q hq => ((h.gr0 g).tkAt hq).1⟩)
  obtain ⟨H, hH⟩ : ∃ H, H = frmC C := ⟨_, rfl⟩
  rw [← hH] at HFR HSp HTk n2 ⊢
  obtain ⟨ip, hip, hpz0, hpz1, hpz2⟩ := info_parts infoSpot10
  have HIP := Lib.hid (And.intro hip (And.intro hpz0 (And.intro hpz1 hpz2)))
  have v1 := inv_len10
  have ga := (Gr.refl [] w).alloc (Obj.cells #[.int .i64 0, .int .u32 0] 242)
  have gb := ga.alloc (Obj.cells #[.slice none 0 0] 285)
  have hr := (Holds.new w #[.int .i64 0, .int .u32 0] 242).alloc (Obj.cells #[.slice none 0 0] 285)
  have hs0 : (w.alloc (Obj.cells #[.int .i64 0, .int .u32 0] 242)).heap.size = w.heap.size + 1 := World.size_alloc _ _
  have hs := Holds.new (w.alloc (Obj.cells #[.int .i64 0, .int .u32 0] 242)) #[.slice none 0 0] 285
  rw [hs0] at hs
  have HI0 := Lib.hid (And.intro (show SpI C V.J w (w.heap.size + 1) [] 0 (.slice none 0 0) _ from ⟨hs, ⟨rfl, .inl ⟨rfl, rfl⟩⟩, rfl, gb, by omega⟩) hr)
  have HN2 := Lib.hid n2
  clear hH n1 n2 n3 n4 n5 n6 hip hpz0 hpz1 hpz2 ga gb hr hs hs0 h
  go_enter Tryz.func164, Tryz.ntmps164
  go_upto_region 2 with fail
  generalize ((w.alloc (Obj.cells #[.int .i64 0, .int .u32 0] 242)).alloc (Obj.cells #[.slice none 0 0] 285)) = w1 at *
  obtain ⟨rb, hrb⟩ : ∃ x, x = w.heap.size := ⟨_, rfl⟩
  rw [← hrb] at HI0 ⊢
  have HRB := Lib.hid hrb
  clear hrb
  have c7 := (HTk.out _ HI0.out.1.gr).1
  go_wp2_with fail
  clear c7
  go_loopw [16] (fun iv wr => ∃ (q n : Nat) (v : Value), iv = .int .i64 (q : Int) ∧ q ≤ H ∧ Hid (SpI C V.J w (rb + 1) (freeL S.tk q) n v wr) ∧ Holds wr rb #[.int .i64 0, .int .u32 0] 242) (fun iv _ => H - (intOf iv).toNat)
  case atStart => exact ⟨0, 0, _, rfl, by omega, Lib.hid HI0.out.1, HI0.out.2⟩
  case round =>
    clear HI0
    obtain ⟨q, n, v, rfl, hq, HS, hr⟩ := hrel
    have HR := Lib.hid hr
    have hH7 := HN2.out
    clear hr
    by_cases hqH : q < H
    · as_aux_lemma =>
      have iq : (q : Int) < (H : Int) := by omega
      have iq0 : (0 : Int) ≤ (q : Int) := by omega
      have tq := (HTk.out _ HS.out.gr).2 q hqH
      have HQ := Lib.hid (show q + 1 ≤ H from hqH)
      cases htk : S.tk q with
      | true =>
        rw [htk] at tq
        have HTQ := Lib.hid htk
        clear htk
        go_wp2_with fail
        clear tq
        go_roundw
        case rel => exact ⟨q + 1, n, v, by go_num, HQ.out, Lib.hid (by rw [freeL, if_pos HTQ.out]; exact HS.out), HR.out⟩
        case measure => simp [intOf]; omega
      | false =>
        rw [htk] at tq
        have HTQ := Lib.hid htk
        have HSP := Lib.hid (fun W (g : Gr [] wr W) => HSp.out W (HS.out.gr.trans g) q hqH)
        clear htk
        obtain ⟨J, hJ⟩ : ∃ x, x = V.J (qL C (8 * q)) := ⟨_, rfl⟩
        rw [← hJ] at HSP
        have HJ := Lib.hid hJ
        clear hJ
        go_upto_region 6 with fail
        clear tq
        obtain ⟨ao, cap, hv⟩ := own_form9 HS.out.own
        subst hv
        have hnq : n ≤ 2048 := by have := HS.out.len; have := freeL_len (tk := S.tk) q; omega
        have s0 : wr.cell? ⟨rb + 1, 0, none⟩ = some (.slice ao n cap) := HS.out.head.cell 0
        have s0d : wr.drew.cell? ⟨rb + 1, 0, none⟩ = some (.slice ao n cap) := HS.out.head.cell 0
        go_region_law ((first
          | (go_simp; go_at_call 165; (with_reducible refine Calls.mono (HSP.out _ (by repeat (first | exact Gr.refl _ _ | refine Gr.drew ?_ | refine Gr.alloc ?_ _))) ?_); rintro rr w5 ⟨rfl, g5⟩; have g5' : Gr [] wr w5 := (by refine Gr.trans ?_ g5; (repeat (first | exact Gr.refl _ _ | refine Gr.drew ?_))); have H5 := Lib.hid (And.intro (HS.out.gr0 g5') (HR.out.gr0 g5')); have s5 : w5.cell? ⟨rb + 1, 0, none⟩ = some (.slice ao n cap) := H5.out.1.head.cell 0; have s5a : (w5.alloc (Obj.cells #[.int .i64 (q : Int), .int .u32 (J : Int)] 242)).cell? ⟨rb + 1, 0, none⟩ = some (.slice ao n cap) := (H5.out.1.head.gr0 ((Gr.refl [] w5).alloc _)).cell 0; clear g5 g5')
          | (have hT3 := H5.out.1.own.alloc (Obj.cells #[.int .i64 (q : Int), .int .u32 (J : Int)] 242); have hn3 := World.news_of_block (Holds.new w5 #[.int .i64 (q : Int), .int .u32 (J : Int)] 242); have hbs : rb + 1 + 1 ≤ (w5.alloc (Obj.cells #[.int .i64 (q : Int), .int .u32 (J : Int)] 242)).heap.size := (by have := H5.out.1.head.lt; rw [World.size_alloc]; omega); refine step_append_lies _ rfl _ _ 283 rfl (rb + 1 + 1) 242 ip _ 2 16 Tryz.underlying283 HIP.out.1 HIP.out.2.1 HIP.out.2.2.1 HIP.out.2.2.2 rfl (by decide) (.slice ao n cap) n (spotL C V.J (freeL S.tk q)) rfl hT3 ⟨w5.heap.size, 0, none⟩ 1 1 [.int .i64 (q : Int), .int .u32 (J : Int)] rfl rfl hn3 (one_spot10 _ _) Nat.one_pos (by unfold maxLen; omega) (by omega) hbs _ rfl ?_; intro g6 cp6 w7 hown6 hgrow6 hat6 hlt6; have gA := (Gr.refl [] w5).alloc (Obj.cells #[.int .i64 (q : Int), .int .u32 (J : Int)] 242); have hlr : ∀ b, (Value.slice ao n cap).ownBlock = some b → rb + 1 + 1 ≤ b := (fun b e => (H5.out.1.own.lt b e).1); have hd7 := (H5.out.1.head.gr0 gA).gr (gr_grown9 hgrow6) (fun e => by have := hlr (rb + 1) (by simpa using e); omega); have s7 : w7.cell? ⟨rb + 1, 0, none⟩ = some (.slice ao n cap) := hd7.cell 0; have f7 := hd7.frozen 0; have HR7 := Lib.hid (And.intro (H5.out.1.snoc (q := q) gA (by rw [← HJ.out]; exact hown6) hgrow6) (((H5.out.2.gr0 gA).gr (gr_grown9 hgrow6) (fun e => by have := hlr rb (by simpa using e); omega)).far (a := ⟨rb + 1, 0, none⟩) (by show rb ≠ rb + 1; omega) (.slice (some ⟨g6, 0, none⟩) (n + 1) cp6))); clear hown6 hgrow6 hat6 hlt6 gA hlr hd7 hT3 hn3 hbs)))
        all_goals
          go_wp2_with fail
          go_roundw
          case rel => exact ⟨q + 1, n + 1, _, by go_num, HQ.out, Lib.hid (by rw [freeL, if_neg (by rw [HTQ.out]; simp)]; exact HR7.out.1), HR7.out.2⟩
          case measure => simp [intOf]; omega
    · obtain rfl : q = H := by omega
      have ij : ¬ ((q : Int) < (q : Int)) := by omega
      have hn1 : 1 ≤ n := by rw [HS.out.len]; exact HFR.out
      have hn2 : n ≤ 2048 := by have := HS.out.len; have := freeL_len (tk := S.tk) q; omega
      obtain ⟨lb, cap, K, sp, hlb, him⟩ := HS.out.sp hn1 (by omega) (fun x hx => by have := (freeL_mem.1 hx).1; omega)
      have HLB := Lib.hid hlb
      have HP := Lib.hid (And.intro sp (And.intro hlb (And.intro him hn1)))
      have HSL := Lib.hid (slen_any sp)
      have hn0 : ¬ n = 0 := by omega
      have hn0b : ((n : Int) == 0) = false := by simp; omega
      have HGR := Lib.hid HS.out.gr
      clear sp hlb him hn1 hn2 hqH hq HS HSp HTk HIP ip
      go_wp2_with fail
      refine HSL.out.mono ?_
      rintro e w2 ⟨rfl, rfl⟩
      go_wp2_with fail
      refine (sinit_any HP.out.1 HP.out.2.2.2).mono ?_
      rintro e w3 ⟨K2, rfl, s3, p3, i3, g3⟩
      obtain ⟨m, rfl⟩ : ∃ m, n = m + 1 := ⟨n - 1, by have := HP.out.2.2.2; omega⟩
      have hlr : rb ≠ lb := by have h4 := HLB.out; omega
      have HR3 := Lib.hid (And.intro (HR.out.gr g3 (by simpa using hlr)) (HGR.out.nextN g3 (fun x hx => .inr (by have h1 : x = lb := (by simpa using hx); have h2 := HLB.out; have h3 := HRB.out; omega))))
      obtain ⟨q0, m0, k0⟩ := (HP.out.2.2.1 (K2 0)).1 ((i3 (K2 0)).1 ⟨0, by omega, rfl⟩)
      have HQ0 := Lib.hid (And.intro (freeL_mem.1 m0) (show ∀ q2, q2 < q → S.tk q2 = false → keyQ10 C V.J q0 ≤ keyQ10 C V.J q2 from fun q2 h1 h2 => by
        obtain ⟨k, hk, e⟩ := (i3 (keyQ10 C V.J q2)).2 ((HP.out.2.2.1 (keyQ10 C V.J q2)).2 ⟨q2, freeL_mem.2 ⟨h1, h2⟩, rfl⟩)
        rw [k0, ← e]
        exact p3.top k hk))
      have hq06 : q0 < 65536 := by have := (freeL_mem.1 m0).1; omega
      have HPO := Lib.hid (hpop_any s3 p3)
      rw [← k0] at HPO
      unfold frV mvV keyQ10 at HPO
      obtain ⟨J, hJ⟩ : ∃ J, J = V.J (qL C (8 * q0)) := ⟨_, rfl⟩
      rw [← hJ] at HPO
      rw [show (J * 65536 + q0) % 65536 = q0 by omega, show (J * 65536 + q0) / 65536 = J by omega] at HPO
      have HJ := Lib.hid hJ
      clear s3 p3 i3 g3 hlr m0 k0 hq06 hJ HR HGR
      go_wp2_with fail
      refine HPO.out.mono ?_
      rintro e w4 ⟨rfl, g4⟩
      have HR4 := Lib.hid (And.intro (HR3.out.1.gr g4 (by have h4 := HLB.out; simp; omega)) (HR3.out.2.nextN g4 (fun x hx => .inr (by have h1 : x = rb + 1 ∨ x = lb := (by simpa using hx); have h2 := HLB.out; have h3 := HRB.out; omega))))
      clear g4 HR3 HPO
      have r0 := HR4.out.1.cell 0
      have r1 := HR4.out.1.cell 1
      have f0 := HR4.out.1.frozen 0
      have f1 := HR4.out.1.frozen 1
      have hrl := HR4.out.1.lt
      have va := assert10
      go_wp2_with fail
      refine bodyPost_ret (v := .tuple #[.agg #[.int .i64 (q0 : Int), .int .u32 (J : Int)], .bool true]) (by simp [results, Tryz.results164, go_sem, *]) rfl ⟨q0, HQ0.out.1.1, HQ0.out.1.2, HQ0.out.2, by rw [HJ.out], ?_⟩
      repeat (with_reducible first | exact HR4.out.2 | refine Gr.setCell ?_ (.inr (by have := HRB.out; (try dsimp only); omega)) _ | refine Gr.alloc ?_ _ | refine Gr.drew ?_)
end
end Go.Proofs.YtefmbchebobceaaGreat

/-
  Layer 10: a page's entry in the table, whatever comes; what a power failure leaves of pages.
-/
namespace Go.Proofs.YtefmbchebobceaaGreat
open Go.RowKit
set_option linter.unusedVariables false

section
variable {w w' : World} {A : FlA} {a : DevA} {C : CfgZ} {gd cm : Bool} {F : Nat → Nat → Nat} {V : FlV} {N pb : Nat}
set_option maxRecDepth 100000 in
set_option maxHeartbeats 8000000 in
/-- A page's word of the table is written. -/
theorem genter_any (fl : FLx C A a gd cm F V N w) (hc : w.cell? ⟨pb, 0, none⟩ = some (.pointer (some ⟨A.fb, 0, none⟩))) (hN : N < 490000000) (g f m : Nat) (hg : g < 16384) (hl : g / 8 < cR C * cL C) (hf : f < 65536) (hm : m < 4294967296) :
    Calls Tryz.prog 47 #[.pointer (some ⟨pb, 0, none⟩), .int .i64 (g : Int), .agg #[.int .i64 (f : Int), .int .u32 (m : Int)]] w fun e w' => ∃ x : Int, e = .returned (.int .i64 x) ∧ FxP C A a gd cm F (fun l2 k => if l2 = g / 8 then updF (F (g / 8)) (g % 8) (guardN (m * 65536 + f)) k else F l2 k) (fun F' => ∃ H, (F' = fun l2 k => if l2 = g / 8 then H k else F l2 k) ∧ One2 (F (g / 8)) (updF (F (g / 8)) (g % 8) (guardN (m * 65536 + f))) H) (N + 4200) x w' ∧ Gr (A.all (cR C) ++ a.all) w w' := by
  have HWd := Lib.hid (fun W => hword_any f m hf hm W)
  have HWr := Lib.hid (fun W (g1 : Gr [] w W) => (fl.gr0 g1).word hN (g / 8) (g % 8) (guardN (m * 65536 + f)) hl (Nat.mod_lt _ (by omega)) (guardN_lt _ (by omega)))
  obtain ⟨K, hK⟩ : ∃ K, K = guardN (m * 65536 + f) := ⟨_, rfl⟩
  rw [← hK] at HWd HWr ⊢
  have t1 : (g : Int).tdiv 8 = ((g / 8 : Nat) : Int) := (Int.ofNat_tdiv g 8).symm
  have t2 : (g : Int).tmod 8 = ((g % 8 : Nat) : Int) := (Int.ofNat_tmod g 8).symm
  obtain ⟨l, hl0⟩ : ∃ l, l = g / 8 := ⟨_, rfl⟩
  obtain ⟨k, hk0⟩ : ∃ k, k = g % 8 := ⟨_, rfl⟩
  rw [← hl0] at t1 HWr ⊢
  rw [← hk0] at t2 HWr ⊢
  have w1 : IntKind.i64.wrap (l : Int) = (l : Int) := IntWalk.i64_in _ (by omega)
  have w2 : IntKind.i64.wrap (k : Int) = (k : Int) := IntWalk.i64_in _ (by omega)
  have ga := (Gr.refl [] w).alloc (Obj.cells #[.int .i64 (f : Int), .int .u32 (m : Int)] 114)
  have hh := Holds.new w #[.int .i64 (f : Int), .int .u32 (m : Int)] 114
  have hc2 := (ga.cell0 (World.block_lt_of_cell? w _ hc)).trans hc
  have HA := Lib.hid ga
  clear hK hl0 hk0 fl hf hm hg hl hc
  go_enter Tryz.func47, Tryz.ntmps47
  go_upto_region 1 with fail
  generalize w.alloc (Obj.cells #[.int .i64 (f : Int), .int .u32 (m : Int)] 114) = w1 at *
  obtain ⟨bb, hbb⟩ : ∃ b, w.heap.size = b := ⟨_, rfl⟩
  rw [hbb] at hh ⊢
  clear hbb ga
  have k0 := kp_cell hc2
  have k1 := kp_cell (hh.cell 0)
  have k2 := kp_cell (hh.cell 1)
  have hne := kp_ne w1
  refine wp_region_kp_tail 10 (by kernel_rfl) (by kernel_rfl) ?_
  simp only [List.take_succ_cons, List.take_zero, List.drop_succ_cons, List.drop_zero]
  repeat (go_big_quiet_step ((rename_i x; exact kp_call x ((HWd.out _).mono fun _ _ q => ⟨q.1, q.2.below0⟩))))
  with_reducible refine wpQuiet_nil ?_
  rintro _ ⟨y, rfl⟩
  have gy := Lib.hid (HA.out.trans (Gr.ofBelow (cs := []) y.h))
  clear k0 k1 k2 hne hh hc2 HA HWd
  generalize y.w = w2 at *
  clear y
  go_wp2_with fail
  refine (HWr.out _ gy.out).mono ?_
  rintro e w3 ⟨x, rfl, f3, g3⟩
  have H3 := Lib.hid (And.intro f3 ((gy.out.of0 (cs := A.all (cR C) ++ a.all)).trans g3))
  clear f3 g3
  go_wp2_with fail
  go_ret
  exact ⟨x, rfl, H3.out.1, H3.out.2⟩
end
/-- What lines and a table tell of pages: these contents. -/
def PgY (C : CfgZ) (Y : Nat → Nat → Nat → Nat) (M : Nat) (F : Nat → Nat → Nat) : Prop :=
  ∃ fr mv, TbO C F fr mv ∧ (∀ g, g < pgC C → mv g ≤ M) ∧ ∀ g k m, g < pgC C → k < 8 → m < 8 → F (8 * fr g + k) m = Y g k m
/-- What pages read. -/
def ySee (F : Nat → Nat → Nat) (S : HtS) : Nat → Nat → Nat → Nat := fun g k m => F (8 * S.fr g + k) m
theorem PgY.congr {C : CfgZ} {Y Y' : Nat → Nat → Nat → Nat} {M M' : Nat} {F F' : Nat → Nat → Nat} (hC : OkC C) (hp : 0 < pgC C) (h : PgY C Y M F) (hF : ∀ l k, l < cR C * cL C → k < 8 → F' l k = F l k) (hM : M ≤ M') (hY : ∀ g k m, g < pgC C → k < 8 → m < 8 → Y g k m = Y' g k m) : PgY C Y' M' F' := by
  obtain ⟨n1, n2, n3, n4, n5, n6⟩ := pg_nums hC hp
  obtain ⟨fr, mv, t, m, y⟩ := h
  refine ⟨fr, mv, ⟨t.lt, t.inj, fun g hg => ?_, t.mv⟩, fun g hg => Nat.le_trans (m g hg) hM, fun g k x hg hk hx => ?_⟩
  · rw [hF _ _ (by omega) (by omega)]
    exact t.tab g hg
  · have := t.lt g hg
    rw [hF _ _ (by omega) hx, y g k x hg hk hx, hY g k x hg hk hx]
section
variable {w w' : World} {X : HtA} {A : FlA} {a : DevA} {C : CfgZ} {gd cm : Bool} {F F' : Nat → Nat → Nat} {V V' : FlV} {N N' lim : Nat} {S : HtS}
theorem HgIs.tbo (h : HgIs w X A a C gd cm F V N lim S) (hN : N < 4294967296) : TbO C F S.fr S.mv := ⟨h.inv.lt, h.inv.inj, h.tab, fun g hg => by have := h.mvb g hg; omega⟩
theorem HgIs.tkf (h : HgIs w X A a C gd cm F V N lim S) {q : Nat} (hq : q < frmC C) (hf : S.tk q = false) : tbC C ≤ q ∧ ∀ g, g < pgC C → S.fr g ≠ q := by
  have hn : ¬ (q < tbC C ∨ ∃ g, g < pgC C ∧ S.fr g = q) := fun e => by rw [(h.inv.tk q hq).2 e] at hf; exact absurd hf (by simp)
  exact ⟨by omega, fun g hg e => hn (.inr ⟨g, hg, e⟩)⟩
theorem HgIs.setF (h : HgIs w X A a C gd cm F V N lim S) (k : Gr (A.all (cR C) ++ a.all) w w') (fl : FLx C A a gd cm F' V' N' w') (ht : ∀ g, g < pgC C → F' (g / 8) (g % 8) = F (g / 8) (g % 8)) (hN : N ≤ N') : HgIs w' X A a C gd cm F' V' N' lim S := by
  obtain ⟨c1, q1, q2⟩ := h.pls
  obtain ⟨c2, q3, q4⟩ := h.hts
  obtain ⟨c3, q5, q6⟩ := h.tks
  exact ⟨fl, h.pos, h.head.gr k (h.na _ (by simp [HtA.all])), ⟨c1, q1.gr k (h.na _ (by simp [HtA.all])), q2⟩, ⟨c2, q3.gr k (h.na _ (by simp [HtA.all])), q4⟩, ⟨c3, q5.gr k (h.na _ (by simp [HtA.all])), q6⟩, h.na, h.nd, h.cap, h.inv, fun g hg => (ht g hg).trans (h.tab g hg), fun g hg => Nat.le_trans (h.mvb g hg) hN, h.htb⟩
theorem HgIs.more (h : HgIs w X A a C gd cm F V N lim S) (hN : N ≤ N') : HgIs w X A a C gd cm F V N' lim S :=
  ⟨h.fl.more hN, h.pos, h.head, h.pls, h.hts, h.tks, h.na, h.nd, h.cap, h.inv, h.tab, fun g hg => Nat.le_trans (h.mvb g hg) hN, h.htb⟩
end
end Go.Proofs.YtefmbchebobceaaGreat
