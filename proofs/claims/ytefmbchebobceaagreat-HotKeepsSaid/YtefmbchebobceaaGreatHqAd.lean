/-
  HotKeeps' walk.
-/
import Derived.Test.YtefmbchebobceaaGreatHkAa
import Derived.Test.YtefmbchebobceaaGreatHkAb
import Derived.Test.YtefmbchebobceaaGreatHkAc
import Derived.Test.YtefmbchebobceaaGreatHkAd
import Derived.Test.YtefmbchebobceaaGreatHkAe
import Derived.Test.YtefmbchebobceaaGreatHkAf
import Derived.Test.YtefmbchebobceaaGreatHkAg
import Derived.Test.YtefmbchebobceaaGreatHkAh
import Derived.Test.YtefmbchebobceaaGreatHkAi
import Derived.Test.YtefmbchebobceaaGreatHkAj
import Derived.Test.YtefmbchebobceaaGreatHkAk
import Derived.Test.YtefmbchebobceaaGreatHkAl
import Derived.Test.YtefmbchebobceaaGreatHkAm
import Derived.Test.YtefmbchebobceaaGreatHkAn
import Derived.Test.YtefmbchebobceaaGreatHkAo
import Derived.Test.YtefmbchebobceaaGreatHkAp
import Derived.Test.YtefmbchebobceaaGreatHkAq
import Derived.Test.YtefmbchebobceaaGreatHkAr
import Derived.Test.YtefmbchebobceaaGreatHkAs
import Derived.Test.YtefmbchebobceaaGreatHkAt
import Derived.Test.YtefmbchebobceaaGreatHkAu
import Derived.Test.YtefmbchebobceaaGreatHkAv
import Derived.Test.YtefmbchebobceaaGreatHkAw
import Derived.Test.YtefmbchebobceaaGreatHkAx
import Derived.Test.YtefmbchebobceaaGreatHkAy
import Derived.Test.YtefmbchebobceaaGreatHkAz
import Derived.Test.YtefmbchebobceaaGreatHkBa
import Derived.Test.YtefmbchebobceaaGreatHkBb
import Derived.Test.YtefmbchebobceaaGreatHkBc
import Derived.Test.YtefmbchebobceaaGreatHkBd
import Derived.Test.YtefmbchebobceaaGreatHkBe
import Derived.Test.YtefmbchebobceaaGreatHkBf
import Derived.Test.YtefmbchebobceaaGreatHkBg
import Derived.Test.YtefmbchebobceaaGreatHkBh
import Derived.Test.YtefmbchebobceaaGreatHkBi
import Derived.Test.YtefmbchebobceaaGreatHkBj
import Derived.Test.YtefmbchebobceaaGreatHkBk
import Derived.Test.YtefmbchebobceaaGreatHpAa
import Derived.Test.YtefmbchebobceaaGreatHpAb
import Derived.Test.YtefmbchebobceaaGreatHpAc
import Derived.Test.YtefmbchebobceaaGreatHpAd
import Derived.Test.YtefmbchebobceaaGreatHpAe
import Derived.Test.YtefmbchebobceaaGreatHpAf
import Derived.Test.YtefmbchebobceaaGreatHpAg
import Derived.Test.YtefmbchebobceaaGreatHpAh
import Derived.Test.YtefmbchebobceaaGreatHqAb
import Derived.Test.YtefmbchebobceaaGreatHqAc
import Derived.Deep.CutBlock
import Derived.Deep.RegionHeld3

namespace Go.Proofs.YtefmbchebobceaaGreat
open Go.RowKit
set_option linter.unusedVariables false

set_option maxRecDepth 100000 in
set_option maxHeartbeats 40000000 in
theorem hkeeps_law (x0 x1 x2 x3 x4 : Int) (x5 : Nat) (v : Value) {w : World} (hx5 : x5 < 18446744073709551616) (hv : SlM w v) :
    Calls Tryz.prog 5 #[.agg #[.int .i64 x0, .int .i64 x1, .int .i64 x2, .int .i64 x3, .int .i64 x4, .int .u64 (x5 : Int)], v] w fun e w' => e = .returned (.bool true) ∧ Gr [] w w' := by
  have HV := Lib.hid hv
  obtain ⟨oC, p1, p2, z1, z2⟩ := smC_ok x0 x2 x3 x5 hx5
  have HSm := Lib.hid (fun W => small10 x0 x1 x2 x3 x4 x5 W)
  have hl0 := mx_nonneg x4
  obtain ⟨l1, hl1⟩ : ∃ n : Nat, smL x4 = (n : Int) := ⟨(smL x4).toNat, by unfold smL; omega⟩
  have hl1b : 1 ≤ l1 ∧ l1 ≤ 5 := by unfold smL at hl1; omega
  obtain ⟨C, hC⟩ : ∃ C, C = smC x0 x2 x3 x5 := ⟨_, rfl⟩
  rw [← hC] at oC p1 p2 z1 z2 HSm
  rw [hl1] at HSm
  obtain ⟨nC, hnC⟩ : ∃ n : Nat, (n : Int) = sizeC C := ⟨(sizeC C).toNat, by omega⟩
  have HN := Lib.hid (show (1 ≤ nC ∧ nC ≤ 8192) ∧ (1 ≤ l1 ∧ l1 ≤ 5) by omega)
  have HZ := Lib.hid (fun W => show Calls Tryz.prog 10 #[.agg #[.int .i64 C.r, .int .i64 C.l, .int .i64 C.s, .int .i64 C.psi, .int .u64 (C.key : Int)]] W (fun e w' => e = .returned (.int .i64 (nC : Int)) ∧ Gr [] W w') from by rw [hnC]; exact rsize9 C ⟨oC.r1, oC.r2, oC.ok⟩ W)
  have HMk := Lib.hid (fun W a (d : DevIs W a (newD nC)) => hmake_new (C := C) (n := nC) oC p1 (by omega) d)
  obtain ⟨G, hG⟩ : ∃ G, G = pgC C := ⟨_, rfl⟩
  have HC := Lib.hid (show OkC C ∧ 0 < pgC C ∧ pgC C ≤ 2 ∧ G = pgC C ∧ (1 ≤ G ∧ G ≤ 2) from ⟨oC, p1, p2, hG, by omega⟩)
  unfold cfgV at HSm HMk
  have HF0 := Lib.hid (fun W => full10 ⟨#[]⟩ W (by show 0 ≤ _; omega))
  obtain ⟨Z0, hY⟩ : ∃ A, A = fullS ⟨#[]⟩ := ⟨_, rfl⟩
  have HY := Lib.hid (show Z0.size = 64 ∧ ∀ k, k < 8 → wdL Z0.data.toList k = 0 by rw [hY]; exact ⟨fullS_size _, fun k hk => nought_word hk⟩)
  rw [← hY] at HF0
  have HG0 := Lib.hid ((Gr.refl [] w).alloc (Obj.cells #[.int .i64 x0, .int .i64 x1, .int .i64 x2, .int .i64 x3, .int .i64 x4, .int .u64 (x5 : Int)] 24))
  have HH := Lib.hid (Holds.new w #[.int .i64 x0, .int .i64 x1, .int .i64 x2, .int .i64 x3, .int .i64 x4, .int .u64 (x5 : Int)] 24)
  clear hv hC hG hY oC p1 p2 z1 z2 hl0 hl1 hl1b hnC hx5
  go_enter Tryz.func5, Tryz.ntmps5
  go_upto_region 1 with fail
  generalize (w.alloc (Obj.cells #[.int .i64 x0, .int .i64 x1, .int .i64 x2, .int .i64 x3, .int .i64 x4, .int .u64 (x5 : Int)] 24)) = w1 at *
  obtain ⟨bA, hbA⟩ : ∃ bA, w.heap.size = bA := ⟨_, rfl⟩
  have HWB := Lib.hid hbA
  rw [hbA] at HH ⊢
  clear hbA
  have c0 := HH.out.cell 0
  have c1 := HH.out.cell 1
  have c2 := HH.out.cell 2
  have c3 := HH.out.cell 3
  have c4 := HH.out.cell 4
  have c5 := HH.out.cell 5
  go_wp2_with fail
  refine (HSm.out _).mono ?_
  rintro e w2 ⟨rfl, g2⟩
  have hh := Holds.new w2 #[.int .i64 C.r, .int .i64 C.l, .int .i64 C.s, .int .i64 C.psi, .int .u64 (C.key : Int)] 27
  have ga := (Gr.refl [] w2).alloc (Obj.cells #[.int .i64 C.r, .int .i64 C.l, .int .i64 C.s, .int .i64 C.psi, .int .u64 (C.key : Int)] 27)
  have H2 := Lib.hid (show Gr [] w _ ∧ _ from And.intro (HG0.out.trans (g2.trans ga)) hh)
  clear g2 hh ga c0 c1 c2 c3 c4 c5 HG0 HH HSm
  go_upto_region 2 with fail
  generalize (w2.alloc (Obj.cells #[.int .i64 C.r, .int .i64 C.l, .int .i64 C.s, .int .i64 C.psi, .int .u64 (C.key : Int)] 27)) = w3 at *
  obtain ⟨pb, hpb⟩ : ∃ pb, w2.heap.size = pb := ⟨_, rfl⟩
  rw [hpb] at H2 ⊢
  clear hpb
  have c0 := H2.out.2.cell 0
  have c1 := H2.out.2.cell 1
  have c2 := H2.out.2.cell 2
  have c3 := H2.out.2.cell 3
  have c4 := H2.out.2.cell 4
  go_wp2_with fail
  with_reducible refine (HZ.out _).mono ?_
  rintro e w4 ⟨rfl, g4⟩
  have H4 := Lib.hid (And.intro (H2.out.1.trans g4) (H2.out.2.gr0 g4))
  clear g4 c0 c1 c2 c3 c4 H2 HZ
  go_wp2_with fail
  refine (pmnew_yes nC _ HN.out.1.1 HN.out.1.2).mono ?_
  rintro e w5 ⟨a, rfl, d5, hlo, g5⟩
  have HLO := Lib.hid (show ∀ x ∈ a.all, w.heap.size ≤ x ∧ pb < x from fun x hx => by have h1 := hlo x hx; have h2 := H4.out.2.lt; have h3 := H4.out.1.size; exact ⟨by omega, by omega⟩)
  have H5 := Lib.hid (And.intro (H4.out.1.trans g5) (And.intro (H4.out.2.gr0 g5) d5))
  clear d5 g5 hlo H4
  go_wp2_with fail
  refine (wakes10 _).mono ?_
  rintro e w6 ⟨rfl, g6⟩
  have H6 := Lib.hid (And.intro (H5.out.1.trans g6) (And.intro (H5.out.2.1.gr0 g6) (H5.out.2.2.gr0 g6)))
  have c0 := H6.out.2.1.cell 0
  have c1 := H6.out.2.1.cell 1
  have c2 := H6.out.2.1.cell 2
  have c3 := H6.out.2.1.cell 3
  have c4 := H6.out.2.1.cell 4
  clear g6 H5
  go_wp2_with fail
  with_reducible refine (HMk.out _ a H6.out.2.2).mono ?_
  rintro e w7 ⟨V, D, B, j, rfl, d7, f7, j7, g7⟩
  have H7 := Lib.hid (And.intro d7 (And.intro f7 (H6.out.1.nextN g7 fun x hx => .inr (HLO.out x hx).1)))
  clear d7 f7 j7 g7 c0 c1 c2 c3 c4 H6 HMk
  go_wp2_with fail
  refine (HQ.begin (lim := l1) HC.out.1 HC.out.2.1 HC.out.2.2.1 H7.out.2.1 H7.out.1 HN.out.2.1 (by have := HN.out; omega)).mono ?_
  rintro e w8 ⟨X, A, rfl, q8, n8, g8⟩
  have HNW := Lib.hid (show ∀ x ∈ X.all ++ (A.all (cR C) ++ a.all), w.heap.size ≤ x from fun x hx => by
    have h2 := H7.out.2.2.size
    rcases List.mem_append.1 hx with hx | hx
    · have h1 := n8 x (List.mem_append.2 (.inl hx))
      omega
    · rcases List.mem_append.1 hx with hx | hx
      · have h1 := n8 x (List.mem_append.2 (.inr hx))
        omega
      · exact (HLO.out x hx).1)
  have H8 := Lib.hid (And.intro (H7.out.2.2.trans g8) q8)
  clear q8 n8 g8 H7 HLO
  go_wp2_with fail
  refine (H8.out.2.len).mono ?_
  rintro e w9 ⟨rfl, rfl⟩
  rw [← HC.out.2.2.2.1]
  have hG1 : ¬ ((G : Int) < 1) := by have := HC.out.2.2.2.2; omega
  go_upto_region 8 with fail
  clear hG1
  have hmm := @run_makeMap Tryz.prog
  have gm := (Gr.refl [] w9).alloc (.map #[] 0)
  have hm := MapP.made (E := textE) (k := 55) w9
  have HB := Lib.hid (show ∃ F V S, Kz w C l1 w9.heap.size Z0 a (fun _ _ => none) X A F V S 0 (w9.alloc (.map #[] 0)) from Kz.of (H8.out.1.trans gm) (((HL.any H8.out.2).weak.gr0 gm).congr fun g k m _ _ hm => (HY.out.2 m hm).symm) (by rw [knF_none]; exact hm) (fun g k s e => by cases e) ⟨H8.out.1.size, fun x hx => ⟨HNW.out x hx, fun e => by have := HL.lt H8.out.2 x hx; omega⟩⟩)
  go_upto_region 9 with fail
  clear hm gm H8 HNW hmm
  generalize w9.alloc (.map #[] 0) = w10 at *
  obtain ⟨mb, hmb⟩ : ∃ mb, w9.heap.size = mb := ⟨_, rfl⟩
  rw [hmb] at HB ⊢
  clear hmb
  obtain ⟨F0, V0, S0, hb0⟩ := HB.out
  have HB := Lib.hid hb0
  clear hb0
  go_cut [72, 73, 74] (fun sv nv iv wz => wz = w10 ∧ iv = .int .i64 0 ∧ ∃ (M cap : Nat) (ao : Option Addr), sv = .slice ao M cap ∧ nv = .int .i64 (M : Int) ∧ M ≤ 40 ∧ ∀ k, k < M → ∃ (vb off : Nat) (x : ActM), ao = some ⟨vb, off, none⟩ ∧ vb < w.heap.size ∧ ActMIs w x ∧ ActMAt w vb (off + k * 7) x)
  case first =>
    rcases HV.out with ⟨ao, cap, rfl, hn, hm⟩ | ⟨vb, off, N, cap, xs, rfl, h1, h2, h3, h4, h5⟩
    · have hmn := minIsA Tryz.prog 0 0 40 40 rfl rfl
      have HNN := Lib.hid hn
      unfold maxLen at hm
      clear hn HV
      cases ao
      case none =>
        obtain rfl := HNN.out rfl
        go_wp2_with fail
        go_meet
        exact ⟨rfl, rfl, 0, 0, none, rfl, rfl, by omega, fun k hk => by omega⟩
      case some ad =>
        go_wp2_with fail
        go_meet
        exact ⟨rfl, rfl, 0, _, _, rfl, rfl, by omega, fun k hk => by omega⟩
    · obtain ⟨M, hM⟩ : ∃ M, M = min N 40 := ⟨_, rfl⟩
      have hmn := minIsA Tryz.prog N M 40 40 rfl hM
      have hM1 : M ≤ N := by omega
      have HM12 := Lib.hid (show M ≤ 40 by omega)
      have HCl := Lib.hid h5
      have HVB := Lib.hid h4
      unfold maxLen at h3
      clear hM h4 h5 HV
      have HML1 := Lib.hid hM1
      go_wp2_with fail
      go_meet
      exact ⟨rfl, rfl, M, _, _, rfl, rfl, HM12.out, fun k hk => ⟨vb, off, xs k, rfl, HVB.out, HCl.out k (by have := HML1.out; omega)⟩⟩
  case rest =>
    obtain ⟨hwc, rfl, M, cap, ao, rfl, rfl, hM40, hcl⟩ := hcut
    rw [← hwc] at HB
    have HCl := Lib.hid hcl
    have HM40 := Lib.hid hM40
    clear hcl HV hM40 hwc
    go_wp2_with fail
    go_loopw [9, 74] (fun pv z wr => ∃ (n : Nat) (K : Nat → Nat → Option ByteArray) (X : HtA) (A : FlA) (F : Nat → Nat → Nat) (V : FlV) (S : HtS), n ≤ M ∧ z = .int .i64 (n : Int) ∧ pv = .pointer (some ⟨X.pb, 0, none⟩) ∧ Hid (Kz w C l1 mb Z0 a K X A F V S n wr)) (fun _ z _ => M - (intOf z).toNat)
    case atStart => exact ⟨0, _, _, _, _, _, _, by omega, rfl, rfl, HB⟩
    case round =>
      clear HB
      obtain ⟨n, K, X, A, F, V, S, hn, rfl, rfl, HA⟩ := hrel
      by_cases hnM : n < M
      · skip
        obtain ⟨vb, off, x, rfl, hvb, hxi, e0, e1, e2, e3, e4, e5, e6⟩ := HCl.out n hnM
        have e0 := (HA.out.gr.cell0 hvb).trans e0
        have e1 := (HA.out.gr.cell0 hvb).trans e1
        have e2 := (HA.out.gr.cell0 hvb).trans e2
        have e3 := (HA.out.gr.cell0 hvb).trans e3
        have e4 := (HA.out.gr.cell0 hvb).trans e4
        have e5 := (HA.out.gr.cell0 hvb).trans e5
        have e6 := (HA.out.gr.cell0 hvb).trans e6
        obtain ⟨xd, xz, xl, xk, xv, xs, xao, xkl, xkc, xkp⟩ := x
        dsimp only at e0 e1 e2 e3 e4 e5 e6
        have hxsz : xs.size ≤ 9223372036854775807 := by have := hxi.2.2.2.2.2.1; unfold maxLen at this; dsimp only at this; omega
        have ik : (n : Int) < (M : Int) := by omega
        have HNM := Lib.hid (show n + 1 ≤ M by omega)
        have HN40 := Lib.hid (show n + 1 ≤ 40 by have := HM40.out; omega)
        have hk0 : (0 : Int) ≤ (n : Int) := by omega
        have hmx := max0 Tryz.prog
        have hd0 := mx_nonneg xd
        have hz0 := mx_nonneg xz
        have hl0 := mx_nonneg xl
        clear hxi hvb
        go_upto_region 12 with fail
        have ht := Holds.new wr #[.int .i64 xd, .int .i64 xz, .int .i64 xl, .int .i64 xk, .int .u64 (xv : Int), .string xs, .slice xao xkl xkc] 54
        have ga := (Gr.refl [] wr).alloc (Obj.cells #[.int .i64 xd, .int .i64 xz, .int .i64 xl, .int .i64 xk, .int .u64 (xv : Int), .string xs, .slice xao xkl xkc] 54)
        have HD := Lib.hid (HA.out.next0 ga)
        have HT := Lib.hid ht
        clear ht ga e0 e1 e2 e3 e4 e5 e6 HA
        generalize (wr.alloc (Obj.cells #[.int .i64 xd, .int .i64 xz, .int .i64 xl, .int .i64 xk, .int .u64 (xv : Int), .string xs, .slice xao xkl xkc] 54)) = w4 at *
        obtain ⟨tb, htb⟩ : ∃ tb, wr.heap.size = tb := ⟨_, rfl⟩
        rw [htb] at HT ⊢
        clear htb
        have kr1 := kp_cell (HT.out.cell 1)
        have kr2 := kp_cell (HT.out.cell 2)
        have hne := kp_ne w4
        have HLn := Lib.hid (fun (x : Cls (Kp w4)) => ((HD.out.next0 (Gr.ofBelow (cs := []) x.h)).hl.len).mono fun e w2 q => And.intro q.1 (show Below _ _ w2 from by rw [q.2]; exact (Gr.refl [] _).below0))
        rw [← HC.out.2.2.2.1] at HLn
        have n1 : ((G : Int) == 0) = false := by have := HC.out.2.2.2.2; simp; omega
        have n2 : (G : Int) ≠ 0 := by have := HC.out.2.2.2.2; omega
        have y1 : (mx xz).tmod (G : Int) = mx xz % (G : Int) := Int.tmod_eq_emod_of_nonneg hz0
        have y2 : (mx xl).tmod 8 = mx xl % 8 := Int.tmod_eq_emod_of_nonneg hl0
        have m1 := Int.emod_nonneg (mx xz) n2
        have m2 := Int.emod_lt_of_pos (mx xz) (show (0 : Int) < (G : Int) by have := HC.out.2.2.2.2; omega)
        obtain ⟨g1, hg1⟩ : ∃ g : Nat, (g : Int) = mx xz % (G : Int) := ⟨(mx xz % (G : Int)).toNat, by omega⟩
        obtain ⟨k1, hk1⟩ : ∃ k : Nat, (k : Int) = mx xl % 8 := ⟨(mx xl % 8).toNat, by omega⟩
        rw [← hg1] at y1
        rw [← hk1] at y2
        have HGK := Lib.hid (show g1 < pgC C ∧ k1 < 8 from ⟨by rw [← HC.out.2.2.2.1]; omega, by omega⟩)
        have y3 : IntKind.i64.wrap (g1 : Int) = (g1 : Int) := IntWalk.i64_in _ (by have := HC.out.2.2.1; have := HGK.out; omega)
        have y4 : IntKind.i64.wrap (k1 : Int) = (k1 : Int) := IntWalk.i64_in _ (by have := HGK.out; omega)
        clear hg1 hk1 m1 m2
        refine wp_region_kp (by kernel_rfl) (by kernel_rfl) ?_
        repeat (go_big_quiet_step ((rename_i x; with_reducible exact kp_call x (HLn.out x))))
        with_reducible refine wpQuiet_nil ?_
        rintro _ ⟨y, rfl⟩
        have gy := Gr.ofBelow (cs := []) y.h
        have HD2 := Lib.hid (HD.out.next0 gy)
        have HT2 := Lib.hid (HT.out.gr0 gy)
        clear kr1 kr2 hne HLn n1 n2 y1 y2 y3 y4 hz0 hl0 gy HD HT
        generalize y.w = w5 at *
        clear y
        have c0 := HT2.out.cell 0
        have i7 : (mx xd).tmod 7 = mx xd % 7 := Int.tmod_eq_emod_of_nonneg hd0
        have m1 := Int.emod_nonneg (mx xd) (show (7 : Int) ≠ 0 by omega)
        have m2 := Int.emod_lt_of_pos (mx xd) (show (0 : Int) < 7 by omega)
        have w2 : IntKind.i64.wrap (mx xd % 7) = mx xd % 7 := IntWalk.i64_in _ (by omega)
        obtain ⟨s7, hs7⟩ : ∃ s7, s7 = mx xd % 7 := ⟨_, rfl⟩
        rw [← hs7] at i7 m1 m2 w2
        go_upto_block 2 with fail
        go_cut [9] (fun pv wz => ∃ (K : Nat → Nat → Option ByteArray) (X : HtA) (A : FlA) (F : Nat → Nat → Nat) (V : FlV) (S : HtS), pv = .pointer (some ⟨X.pb, 0, none⟩) ∧ Hid (Kz w C l1 mb Z0 a K X A F V S (n + 1) wz))
        case first =>
          by_cases h4 : s7 = 4
          · as_aux_lemma =>
              have hb : (s7 == 4) = true := by simpa using h4
              have HNL := Lib.hid (pg_nums HD2.out.hg.fl.ok HD2.out.hg.pos)
              have hfr := (HD2.out.hg.inv.lt g1 HGK.out.1).2
              have HFr := Lib.hid (gframe_in HD2.out.hg g1 HGK.out.1)
              obtain ⟨f, hf⟩ : ∃ f, f = S.fr g1 := ⟨_, rfl⟩
              rw [← hf] at HFr hfr
              clear h4
              go_upto_region 21 with fail
              clear c0 hmx hd0 i7 m1 m2 w2 hb hs7
              go_wp2_with fail
              refine HFr.out.mono ?_
              rintro e w6 ⟨rfl, rfl⟩
              obtain ⟨f8, hf8⟩ : ∃ x, x = 8 * f := ⟨_, rfl⟩
              obtain ⟨l, hl⟩ : ∃ x, x = 8 * f + k1 := ⟨_, rfl⟩
              have HLl := Lib.hid (show l < cR C * cL C by have := HNL.out; have := HGK.out.2; omega)
              have w1' : IntKind.i64.wrap ((f : Int) * 8) = (f8 : Int) := by rw [show (f : Int) * 8 = (f8 : Int) by omega]; exact IntWalk.i64_in _ (by have := HNL.out; omega)
              have w2' : IntKind.i64.wrap ((f8 : Int) + (k1 : Int)) = (l : Int) := by rw [show (f8 : Int) + (k1 : Int) = (l : Int) by omega]; exact IntWalk.i64_in _ (by have := HNL.out; have := HGK.out.2; omega)
              clear hf8 hl hf hfr HFr
              go_upto_region 23 with fail
              go_wp2_with fail
              refine (gflat_any HD2.out.hg).mono ?_
              rintro e w7 ⟨rfl, rfl⟩
              go_wp2_with fail
              refine (gwhere_in HD2.out.hg l HLl.out).mono ?_
              rintro e w8 ⟨rfl, g8⟩
              have H8 := Lib.hid (HD2.out.next0 g8)
              clear g8 w1' w2' HD2
              go_upto_region 25 with fail
              go_wp2_with fail
              refine (H8.out.hg.break l HLl.out).mono ?_
              rintro e w9 ⟨rfl, f9, g9⟩
              have H9 := Lib.hid (show Kz w C l1 mb Z0 a K X A F V S n w9 from ⟨H8.out.gr.nextN g9 fun x hx => .inr (H8.out.lo.2 x (List.mem_append.2 (.inr (List.mem_append.2 (.inr hx))))).1, f9, H8.out.see, H8.out.mp.gr g9 fun hx => (H8.out.lo.2 _ (List.mem_append.2 (.inr (List.mem_append.2 (.inr hx))))).2 rfl, H8.out.sz, H8.out.lo, H8.out.li⟩)
              clear f9 g9 H8
              go_wp2_with fail
              go_meet
              exact ⟨K, X, A, F, V, S, rfl, Lib.hid (H9.out.more (by omega))⟩
          by_cases h6 : s7 = 6
          · as_aux_lemma =>
              have hb4 : (s7 == 4) = false := by simpa using h4
              have hb : (s7 == 6) = true := by simpa using h6
              clear h4 h6
              go_upto_region 27 with fail
              clear c0 hmx hd0 i7 m1 m2 w2 hb hb4 hs7
              go_wp2_with fail
              refine (HD2.out.hl.again (by have := HN40.out; omega)).mono ?_
              rintro e w6 ⟨X2, A2, rfl, f6, n6, g6⟩
              have H6 := Lib.hid (Kz.of (lim := l1) (mb := mb) (n := n) (K := K) (Z0 := Z0) (HD2.out.gr.trans g6) f6 (HD2.out.mp.gr0 g6) HD2.out.sz ⟨HD2.out.lo.1, fun x hx => by
                have hs := HD2.out.gr.size
                have hnl := HD2.out.mp.lt
                rcases List.mem_append.1 hx with hx | hx
                · have := n6 x (List.mem_append.2 (.inl hx))
                  exact ⟨by omega, by omega⟩
                · rcases List.mem_append.1 hx with hx | hx
                  · have := n6 x (List.mem_append.2 (.inr hx))
                    exact ⟨by omega, by omega⟩
                  · exact HD2.out.lo.2 x (List.mem_append.2 (.inr (List.mem_append.2 (.inr hx))))⟩)
              clear f6 n6 g6 HD2
              go_wp2_with fail
              go_meet
              obtain ⟨F2, V2, S2, h⟩ := H6.out
              exact ⟨K, X2, A2, F2, V2, S2, rfl, Lib.hid (h.more (by omega))⟩
          as_aux_lemma =>
            have hb4 : (s7 == 4) = false := by simpa using h4
            have hb : (s7 == 6) = false := by simpa using h6
            clear h4 h6
            go_upto_region 14 with fail
            clear c0 hmx hd0 i7 m1 m2 w2 hb hb4 hs7
            obtain ⟨m8, hm8⟩ : ∃ m, m = min xs.size 64 := ⟨_, rfl⟩
            have hmn := minIsA Tryz.prog xs.size m8 64 64 rfl hm8
            have hm8a : m8 ≤ xs.size := by omega
            have HM8 := Lib.hid (show m8 ≤ 64 by omega)
            clear hm8
            have c5 := HT2.out.cell 5
            have HFl := Lib.hid (fun W => full10 (xs.extract 0 m8) W (by rw [ByteArray.size_extract]; have := HM8.out; omega))
            obtain ⟨T, hT⟩ : ∃ S, S = fullS (xs.extract 0 m8) := ⟨_, rfl⟩
            rw [← hT] at HFl
            have HT64 := Lib.hid (show T.size = 64 by rw [hT]; exact fullS_size _)
            clear hT
            go_wp2_with fail
            refine (HFl.out _).mono ?_
            rintro e w6 ⟨rfl, g6⟩
            have H6 := Lib.hid (HD2.out.next0 g6)
            clear g6 c5 HD2 HT2 HFl hmn hm8a hxsz
            go_upto_region 15 with fail
            go_wp2_with fail
            refine (H6.out.put (by have := HN40.out; omega) g1 k1 HGK.out.1 HGK.out.2 T HT64.out).mono ?_
            rintro e w7 ⟨x, rfl, gr7, mp7, hx⟩
            rcases hx with ⟨rfl, q7⟩ | ⟨rfl, q7⟩
            · have H7 := Lib.hid (And.intro gr7 (And.intro mp7 q7))
              have HZ2 := Lib.hid (show WfZ (g1 : Int) ∧ WfZ (k1 : Int) from ⟨wfZ (by omega) (by have := HGK.out.1; have := HC.out.2.2.1; omega), wfZ (by omega) (by have := HGK.out.2; omega)⟩)
              clear gr7 mp7 q7
              go_upto_region 17 with fail
              go_wp2_with (refine wp_putP rfl _ _ _ rfl rfl H7.out.2.1 (by unfold maxLen; have := HN40.out; omega) pair10 Tryz.underlying88 (g1 : Int) (k1 : Int) rfl HZ2.out.1 HZ2.out.2 T rfl ?_)
              intro w8 hm gm hsz
              have HX := Lib.hid (Kz.of (lim := l1) (mb := mb) (n := n + 1) (K := putO K g1 k1 T) (Z0 := Z0) (H7.out.1.nextN gm fun x hx => .inr (by rw [List.mem_singleton.1 hx]; exact H6.out.lo.1)) (H7.out.2.2.gr gm fun x hx e => (H6.out.lo.2 x hx).2 (List.mem_singleton.1 e)) (by rw [knF_put] at hm; exact hm) (fun g k s e => by
                unfold putO at e
                split at e
                · cases e; exact HT64.out
                · exact H6.out.sz g k s e) H6.out.lo)
              clear hm gm hsz H7 H6
              go_wp2_with fail
              go_meet
              obtain ⟨F2, V2, S2, h⟩ := HX.out
              exact ⟨_, X, A, F2, V2, S2, rfl, Lib.hid h⟩
            · have HX := Lib.hid (Kz.of (lim := l1) (mb := mb) (n := n + 1) (K := K) (Z0 := Z0) gr7 q7 (mp7.mono (by omega)) H6.out.sz H6.out.lo)
              clear gr7 mp7 q7 H6
              go_wp2_with fail
              go_meet
              obtain ⟨F2, V2, S2, h⟩ := HX.out
              exact ⟨_, X, A, F2, V2, S2, rfl, Lib.hid h⟩
        case rest =>
          obtain ⟨K2, X2, A2, F2, V2, S2, rfl, HQ⟩ := hcut
          have hmm := @run_makeMap Tryz.prog
          have gm := (Gr.refl [] wc).alloc (.map #[] 0)
          have hm := MapZ.made (E := boolE) (k := 3) wc
          have HB := Lib.hid (show MapZ boolE 3 (wc.alloc (.map #[] 0)) wc.heap.size 0 (fun _ => none) ∧ Kz w C l1 mb Z0 a K2 X2 A2 F2 V2 S2 (n + 1) (wc.alloc (.map #[] 0)) from ⟨hm, HQ.out.next0 gm⟩)
          have HAB := Lib.hid (show w.heap.size ≤ wc.heap.size ∧ wc.heap.size ≠ mb ∧ wc.heap.size ∉ X2.all ++ (A2.all (cR C) ++ a.all) from ⟨HQ.out.gr.size, fun e => by have := HQ.out.mp.lt; omega, fun e => by have := HQ.out.hg.lt _ e; omega⟩)
          go_upto_region 31 with fail
          clear hm gm HQ hmm hmx hd0 i7 m1 m2 w2 hs7 hxsz c0 HT2 HD2
          generalize wc.alloc (.map #[] 0) = w9 at *
          obtain ⟨ab, hab⟩ : ∃ ab, wc.heap.size = ab := ⟨_, rfl⟩
          rw [hab] at HB HAB ⊢
          clear hab
          go_wp2_with fail
          refine (HB.out.2.hl.len).mono ?_
          rintro e w10 ⟨rfl, rfl⟩
          rw [← HC.out.2.2.2.1]
          go_wp2_with fail
          go_loopw [156] (fun z wr => ∃ i : Nat, z = .int .i64 (i : Int) ∧ i ≤ G ∧ Hid (MapZ boolE 3 wr ab i (atF S2.fr i) ∧ Kz w C l1 mb Z0 a K2 X2 A2 F2 V2 S2 (n + 1) wr)) (fun z _ => G - (intOf z).toNat)
          case atStart => exact ⟨0, rfl, by omega, by rw [atF_zero]; exact HB⟩
          case round =>
            clear HB
            obtain ⟨i, rfl, hi, HH⟩ := hrel
            by_cases hiG : i < G
            · as_aux_lemma =>
                have im : (i : Int) < (G : Int) := by omega
                have HIG := Lib.hid (show i < pgC C by rw [← HC.out.2.2.2.1]; exact hiG)
                have HIM := Lib.hid hiG
                have hw : IntKind.i64.wrap ((i : Int) + 1) = (i : Int) + 1 := IntWalk.i64_in _ (by have := HC.out.2.2.2.2; omega)
                clear hiG hi
                have HZ := Lib.hid (HH.out.2.frameW HIG.out)
                have HFr := Lib.hid (gframe_in HH.out.2.hg i HIG.out)
                have hlk := HH.out.1.look (t := 89) Tryz.underlying3 Tryz.underlying89 HZ.out.1
                rw [atF_new (fun l hl e => by have := HH.out.2.hg.inv.inj l i (by have := HIG.out; omega) HIG.out e; omega)] at hlk
                obtain ⟨zz, hzz⟩ : ∃ zz : Int, zz = (S2.fr i : Int) := ⟨_, rfl⟩
                rw [← hzz] at hlk HFr
                have HZZ := Lib.hid hzz
                clear hzz
                have hlk2 : ∀ W, W = wr → (Instr.lookup 89 (.map (some ab)) (.int .i64 zz) false).run Tryz.prog W = .ok (.bool false) W := fun W q => by subst q; exact hlk
                clear hlk
                have hlk3 := hlk2 wr rfl
                clear hlk2
                go_wp2_with fail
                refine HFr.out.mono ?_
                rintro e w11 ⟨rfl, rfl⟩
                go_upto_region 37 with fail
                clear hlk3
                go_wp2_with (refine wp_putZ rfl _ _ _ rfl rfl HH.out.1 (by unfold maxLen; have := HIM.out; have := HC.out.2.2.2.2; omega) Tryz.underlying3 Tryz.underlying89 zz rfl (by rw [HZZ.out]; exact HZ.out.1) true rfl ?_)
                intro w12 hm gm hsz
                have HX := Lib.hid (show MapZ boolE 3 w12 ab (i + 1) (atF S2.fr (i + 1)) ∧ Kz w C l1 mb Z0 a K2 X2 A2 F2 V2 S2 (n + 1) w12 from ⟨by
                  rw [HZZ.out, atF_succ] at hm
                  exact hm, HH.out.2.next gm fun x hx => by rw [List.mem_singleton.1 hx]; exact HAB.out⟩)
                clear hm gm hsz HH HFr
                go_wp2_with fail
                go_loopw [174] (fun z wr => ∃ k : Nat, z = .int .i64 (k : Int) ∧ k ≤ 8 ∧ Hid (MapZ boolE 3 wr ab (i + 1) (atF S2.fr (i + 1)) ∧ Kz w C l1 mb Z0 a K2 X2 A2 F2 V2 S2 (n + 1) wr)) (fun z _ => 8 - (intOf z).toNat)
                case atStart => exact ⟨0, rfl, by omega, HX⟩
                case round =>
                  clear HX
                  obtain ⟨k, rfl, hk, HH⟩ := hrel
                  by_cases hk8 : k < 8
                  · as_aux_lemma =>
                      have ik : (k : Int) < 8 := by omega
                      have HK8 := Lib.hid hk8
                      have hwk : IntKind.i64.wrap ((k : Int) + 1) = (k : Int) + 1 := IntWalk.i64_in _ (by omega)
                      clear hk8 hk
                      have hlk := HH.out.2.look i k (by have := HIM.out; have := HC.out.2.2.2.2; omega) HK8.out
                      have HTx := Lib.hid (fun W (g : Gr [] wr W) => (HH.out.2.next0 g).text HY.out.1 i k HIG.out HK8.out)
                      cases hKk : K2 i k with
                      | some s =>
                        rw [hKk] at hlk
                        have HTx2 := Lib.hid (fun W (g : Gr [] wr W) => show Calls Tryz.prog 24 #[.pointer (some ⟨X2.pb, 0, none⟩), .int .i64 (i : Int), .int .i64 (k : Int)] W (fun e w' => e = .returned (.tuple #[.string s, .int .i64 0]) ∧ Gr [] W w') from by have := HTx.out W g; rw [hKk] at this; exact this)
                        have hlk3 : (Instr.lookup 88 (.map (some mb)) (.agg #[.int .i64 (i : Int), .int .i64 (k : Int)]) true).run Tryz.prog wr = .ok (.tuple #[.string s, .bool true]) wr := hlk
                        clear hlk hKk HTx
                        go_upto_region 44 with fail
                        clear hlk3
                        go_wp2_with fail
                        refine (HTx2.out _ (Gr.refl _ _)).mono ?_
                        rintro e w13 ⟨rfl, g13⟩
                        have H13 := Lib.hid (And.intro (HH.out.1.gr0 g13) (HH.out.2.next0 g13))
                        clear g13 HH HTx2
                        go_wp2_with fail
                        go_roundw
                        case rel => exact ⟨k + 1, by go_num, HK8.out, H13⟩
                        case measure => have := HK8.out; simp [intOf]; omega
                      | none =>
                        rw [hKk] at hlk
                        have HTx2 := Lib.hid (fun W (g : Gr [] wr W) => show Calls Tryz.prog 24 #[.pointer (some ⟨X2.pb, 0, none⟩), .int .i64 (i : Int), .int .i64 (k : Int)] W (fun e w' => e = .returned (.tuple #[.string Z0, .int .i64 0]) ∧ Gr [] W w') from by have := HTx.out W g; rw [hKk] at this; exact this)
                        have hlk3 : (Instr.lookup 88 (.map (some mb)) (.agg #[.int .i64 (i : Int), .int .i64 (k : Int)]) true).run Tryz.prog wr = .ok (.tuple #[.string ⟨#[]⟩, .bool false]) wr := hlk
                        clear hlk hKk HTx
                        go_upto_region 43 with fail
                        clear hlk3
                        go_wp2_with fail
                        refine (HF0.out _).mono ?_
                        rintro e w12 ⟨rfl, g12⟩
                        have H12 := Lib.hid (And.intro (HH.out.1.gr0 g12) (And.intro (HH.out.2.next0 g12) g12))
                        clear g12 HH
                        go_wp2_with fail
                        refine (HTx2.out _ H12.out.2.2).mono ?_
                        rintro e w13 ⟨rfl, g13⟩
                        have H13 := Lib.hid (And.intro (H12.out.1.gr0 g13) (H12.out.2.1.next0 g13))
                        clear g13 H12 HTx2
                        go_wp2_with fail
                        go_roundw
                        case rel => exact ⟨k + 1, by go_num, HK8.out, H13⟩
                        case measure => have := HK8.out; simp [intOf]; omega
                  · obtain rfl : k = 8 := by omega
                    have ik : ¬ ((8 : Int) < 8) := by omega
                    clear hk8 hk
                    go_wp2_with fail
                    go_roundw
                    case rel => exact ⟨i + 1, by go_num, HIM.out, HH⟩
                    case measure => have := HIM.out; simp [intOf]; omega
            · obtain rfl : i = G := by omega
              have im : ¬ ((i : Int) < (i : Int)) := by omega
              have hw : IntKind.i64.wrap ((n : Int) + 1) = (n : Int) + 1 := IntWalk.i64_in _ (by have := HN40.out; omega)
              clear hiG hi
              go_wp2_with fail
              go_roundw
              case rel => exact ⟨n + 1, K2, X2, A2, F2, V2, S2, HNM.out, by go_num, rfl, Lib.hid HH.out.2⟩
              case measure => have := HNM.out; simp [intOf]; omega
      · obtain rfl : n = M := by omega
        have ik : ¬ ((n : Int) < (n : Int)) := by omega
        go_wp2_with fail
        go_ret
        exact ⟨rfl, HA.out.gr⟩

theorem walk_HotKeeps (x0 x1 x2 x3 x4 : Int) (x5 : Nat) (v : Value) {w : World} (hx : CfgB6 x0 x1 x2 x3 x4 x5) (s : SlM w v) :
    Calls Tryz.prog 5 #[.agg #[.int .i64 x0, .int .i64 x1, .int .i64 x2, .int .i64 x3, .int .i64 x4, .int .u64 (x5 : Int)], v] w fun e w' => e = .returned (.bool true) ∧ Below w.heap.size w w' :=
  (hkeeps_law x0 x1 x2 x3 x4 x5 v hx.2.2.2.2.2 s).mono fun _ _ q => ⟨q.1, q.2.below0⟩
end Go.Proofs.YtefmbchebobceaaGreat
