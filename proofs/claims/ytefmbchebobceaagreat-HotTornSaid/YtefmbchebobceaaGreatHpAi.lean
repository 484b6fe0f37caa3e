/-
  HotTorn's walk.
-/
import Derived.Test.YtefmbchebobceaaGreatHkAa
import Derived.Test.YtefmbchebobceaaGreatHkAb
import Derived.Test.YtefmbchebobceaaGreatHkAc
import Derived.Test.YtefmbchebobceaaGreatHkAd
import Derived.Test.YtefmbchebobceaaGreatHkAe
import Derived.Test.YtefmbchebobceaaGreatHkAf
import Derived.Test.YtefmbchebobceaaGreatHkAg
import Derived.Test.YtefmbchebobceaaGreatHkAh
import Derived.Test.YtefmbchebobceaaGreatHkAi
import Derived.Test.YtefmbchebobceaaGreatHkAj
import Derived.Test.YtefmbchebobceaaGreatHkAk
import Derived.Test.YtefmbchebobceaaGreatHkAl
import Derived.Test.YtefmbchebobceaaGreatHkAm
import Derived.Test.YtefmbchebobceaaGreatHkAn
import Derived.Test.YtefmbchebobceaaGreatHkAo
import Derived.Test.YtefmbchebobceaaGreatHkAp
import Derived.Test.YtefmbchebobceaaGreatHkAq
import Derived.Test.YtefmbchebobceaaGreatHkAr
import Derived.Test.YtefmbchebobceaaGreatHkAs
import Derived.Test.YtefmbchebobceaaGreatHkAt
import Derived.Test.YtefmbchebobceaaGreatHkAu
import Derived.Test.YtefmbchebobceaaGreatHkAv
import Derived.Test.YtefmbchebobceaaGreatHkAw
import Derived.Test.YtefmbchebobceaaGreatHkAx
import Derived.Test.YtefmbchebobceaaGreatHkAy
import Derived.Test.YtefmbchebobceaaGreatHkAz
import Derived.Test.YtefmbchebobceaaGreatHkBa
import Derived.Test.YtefmbchebobceaaGreatHkBb
import Derived.Test.YtefmbchebobceaaGreatHkBc
import Derived.Test.YtefmbchebobceaaGreatHkBd
import Derived.Test.YtefmbchebobceaaGreatHkBe
import Derived.Test.YtefmbchebobceaaGreatHkBf
import Derived.Test.YtefmbchebobceaaGreatHkBg
import Derived.Test.YtefmbchebobceaaGreatHkBh
import Derived.Test.YtefmbchebobceaaGreatHkBi
import Derived.Test.YtefmbchebobceaaGreatHkBj
import Derived.Test.YtefmbchebobceaaGreatHkBk
import Derived.Test.YtefmbchebobceaaGreatHpAg
import Derived.Test.YtefmbchebobceaaGreatHpAh
import Derived.Deep.CutBlock
import Derived.Deep.RegionHeld3

namespace Go.Proofs.YtefmbchebobceaaGreat
open Go.RowKit
set_option linter.unusedVariables false

set_option maxRecDepth 100000 in
set_option maxHeartbeats 40000000 in
theorem htorn_law (x0 x1 x2 x3 x4 : Int) (x5 : Nat) (s t : ByteArray) (p q r3 : Nat) {w : World} (hx5 : x5 < 18446744073709551616) (hp : p < 65536) (hq : q < 65536) (hr : r3 < 65536) (hs2 : s.size ≤ 4611686018427387904) (ht2 : t.size ≤ 4611686018427387904) :
    Calls Tryz.prog 6 #[.agg #[.int .i64 x0, .int .i64 x1, .int .i64 x2, .int .i64 x3, .int .i64 x4, .int .u64 (x5 : Int)], .agg #[.string s, .string t], .agg #[.int .u16 (p : Int), .int .u16 (q : Int), .int .u16 (r3 : Int)]] w fun e w' => e = .returned (.bool true) ∧ Gr [] w w' := by
  obtain ⟨i0, hi, hz0, hz1, hz2⟩ := info_parts infoB
  have HIN := Lib.hid (And.intro hi (And.intro hz0 (And.intro hz1 hz2)))
  have HML := Lib.hid (show (64 : Nat) ≤ maxLen by unfold maxLen; omega)
  obtain ⟨oC, p1, p2, z1, z2⟩ := smC_ok x0 x2 x3 x5 hx5
  have HSm := Lib.hid (fun W => small10 x0 x1 x2 x3 x4 x5 W)
  have hl0 := mx_nonneg x4
  obtain ⟨l1, hl1⟩ : ∃ n : Nat, smL x4 = (n : Int) := ⟨(smL x4).toNat, by unfold smL; omega⟩
  have hl1b : 1 ≤ l1 ∧ l1 ≤ 5 := by unfold smL at hl1; omega
  obtain ⟨C, hC⟩ : ∃ C, C = smC x0 x2 x3 x5 := ⟨_, rfl⟩
  rw [← hC] at oC p1 p2 z1 z2 HSm
  rw [hl1] at HSm
  obtain ⟨nC, hnC⟩ : ∃ n : Nat, (n : Int) = sizeC C := ⟨(sizeC C).toNat, by omega⟩
  have HN := Lib.hid (show (1 ≤ nC ∧ nC ≤ 8192) ∧ (1 ≤ l1 ∧ l1 ≤ 5) by omega)
  have HZ := Lib.hid (fun W => show Calls Tryz.prog 10 #[.agg #[.int .i64 C.r, .int .i64 C.l, .int .i64 C.s, .int .i64 C.psi, .int .u64 (C.key : Int)]] W (fun e w' => e = .returned (.int .i64 (nC : Int)) ∧ Gr [] W w') from by rw [hnC]; exact rsize9 C ⟨oC.r1, oC.r2, oC.ok⟩ W)
  have HMk := Lib.hid (fun W a (d : DevIs W a (newD nC)) => hmake_new (C := C) (n := nC) oC p1 (by omega) d)
  obtain ⟨G, hG⟩ : ∃ G, G = pgC C := ⟨_, rfl⟩
  have HC := Lib.hid (show OkC C ∧ 0 < pgC C ∧ pgC C ≤ 2 ∧ G = pgC C ∧ (1 ≤ G ∧ G ≤ 2) from ⟨oC, p1, p2, hG, by omega⟩)
  unfold cfgV at HSm HMk
  obtain ⟨Fz, hFz⟩ : ∃ Fz : Nat, 1 + (p : Int) % 150 = (Fz : Int) := ⟨1 + p % 150, by omega⟩
  have HFz := Lib.hid (And.intro hFz (show Fz ≤ 150 by omega))
  obtain ⟨r5, hr5⟩ : ∃ r5 : Nat, r5 = r3 % 20 := ⟨_, rfl⟩
  obtain ⟨K, hK⟩ : ∃ K : Nat, K = 8 + r5 := ⟨_, rfl⟩
  have y1 : (r3 : Int).tmod 20 = (r5 : Int) := by rw [Int.tmod_eq_emod_of_nonneg (by omega)]; omega
  have y2 : IntKind.u16.wrap (r5 : Int) = (r5 : Int) := by rw [IntKind.wrap_u16]; omega
  have y3 : IntKind.i64.wrap (r5 : Int) = (r5 : Int) := IntWalk.i64_in _ (by omega)
  have y4 : IntKind.i64.wrap (8 + (r5 : Int)) = (K : Int) := by rw [show 8 + (r5 : Int) = (K : Int) by omega]; exact IntWalk.i64_in _ (by omega)
  have HY := Lib.hid (And.intro y1 (And.intro y2 (And.intro y3 y4)))
  have HK := Lib.hid (show K ≤ 27 by omega)
  have HFS := Lib.hid (fun W => full10 s W hs2)
  have HFT := Lib.hid (fun W => full10 t W ht2)
  obtain ⟨S, hS⟩ : ∃ A, A = fullS s := ⟨_, rfl⟩
  obtain ⟨T, hT⟩ : ∃ A, A = fullS t := ⟨_, rfl⟩
  have HS := Lib.hid (show S.size = 64 by rw [hS]; exact fullS_size _)
  have HT := Lib.hid (show T.size = 64 by rw [hT]; exact fullS_size _)
  rw [← hS] at HFS
  rw [← hT] at HFT
  have HPQ := Lib.hid (And.intro hp (And.intro hq hr))
  have hA1 := (Holds.new (w.alloc (Obj.cells #[.int .i64 x0, .int .i64 x1, .int .i64 x2, .int .i64 x3, .int .i64 x4, .int .u64 (x5 : Int)] 24)) #[.string s, .string t] 91).alloc (Obj.cells #[.int .u16 (p : Int), .int .u16 (q : Int), .int .u16 (r3 : Int)] 93)
  have hA2 := Holds.new ((w.alloc (Obj.cells #[.int .i64 x0, .int .i64 x1, .int .i64 x2, .int .i64 x3, .int .i64 x4, .int .u64 (x5 : Int)] 24)).alloc (Obj.cells #[.string s, .string t] 91)) #[.int .u16 (p : Int), .int .u16 (q : Int), .int .u16 (r3 : Int)] 93
  have hA0 := ((Holds.new w #[.int .i64 x0, .int .i64 x1, .int .i64 x2, .int .i64 x3, .int .i64 x4, .int .u64 (x5 : Int)] 24).alloc (Obj.cells #[.string s, .string t] 91)).alloc (Obj.cells #[.int .u16 (p : Int), .int .u16 (q : Int), .int .u16 (r3 : Int)] 93)
  have hGG := (((Gr.refl [] w).alloc (Obj.cells #[.int .i64 x0, .int .i64 x1, .int .i64 x2, .int .i64 x3, .int .i64 x4, .int .u64 (x5 : Int)] 24)).alloc (Obj.cells #[.string s, .string t] 91)).alloc (Obj.cells #[.int .u16 (p : Int), .int .u16 (q : Int), .int .u16 (r3 : Int)] 93)
  rw [World.size_alloc] at hA1 hA2
  try rw [World.size_alloc] at hA2
  have HA := Lib.hid (And.intro hA1 (And.intro hA2 (And.intro hGG hA0)))
  clear hA1 hA2 hGG hA0 hC hG oC p1 p2 z1 z2 hl0 hl1 hl1b hnC hx5 hFz hr5 hK y1 y2 y3 y4 hS hT hs2 ht2 hp hq hr hi hz0 hz1 hz2
  go_enter Tryz.func6, Tryz.ntmps6
  go_upto_region 1 with fail
  generalize (((w.alloc (Obj.cells #[.int .i64 x0, .int .i64 x1, .int .i64 x2, .int .i64 x3, .int .i64 x4, .int .u64 (x5 : Int)] 24)).alloc (Obj.cells #[.string s, .string t] 91)).alloc (Obj.cells #[.int .u16 (p : Int), .int .u16 (q : Int), .int .u16 (r3 : Int)] 93)) = w1 at *
  obtain ⟨bA, hbA⟩ : ∃ bA, w.heap.size = bA := ⟨_, rfl⟩
  have HWB := Lib.hid hbA
  rw [hbA] at HA ⊢
  clear hbA
  have c0 := HA.out.2.2.2.cell 0
  have c1 := HA.out.2.2.2.cell 1
  have c2 := HA.out.2.2.2.cell 2
  have c3 := HA.out.2.2.2.cell 3
  have c4 := HA.out.2.2.2.cell 4
  have c5 := HA.out.2.2.2.cell 5
  go_wp2_with fail
  refine (HSm.out _).mono ?_
  rintro e w2 ⟨rfl, g2⟩
  have hh := Holds.new w2 #[.int .i64 C.r, .int .i64 C.l, .int .i64 C.s, .int .i64 C.psi, .int .u64 (C.key : Int)] 27
  have ga := (Gr.refl [] w2).alloc (Obj.cells #[.int .i64 C.r, .int .i64 C.l, .int .i64 C.s, .int .i64 C.psi, .int .u64 (C.key : Int)] 27)
  have H2 := Lib.hid (show Tp w bA w2.heap.size C s t p q r3 (w2.alloc (Obj.cells #[.int .i64 C.r, .int .i64 C.l, .int .i64 C.s, .int .i64 C.psi, .int .u64 (C.key : Int)] 27)) from ⟨HA.out.2.2.1.trans (g2.trans ga), (HA.out.1.gr0 g2).gr0 ga, (HA.out.2.1.gr0 g2).gr0 ga, hh, Nat.lt_of_lt_of_le HA.out.2.1.lt g2.size, by rw [HWB.out]; exact Nat.le_refl _⟩)
  clear g2 hh ga c0 c1 c2 c3 c4 c5 HA HSm
  go_upto_region 2 with fail
  generalize (w2.alloc (Obj.cells #[.int .i64 C.r, .int .i64 C.l, .int .i64 C.s, .int .i64 C.psi, .int .u64 (C.key : Int)] 27)) = w3 at *
  obtain ⟨pb, hpb⟩ : ∃ pb, w2.heap.size = pb := ⟨_, rfl⟩
  rw [hpb] at H2 ⊢
  clear hpb
  obtain ⟨c0, c1, c2, c3, c4⟩ := H2.out.cfg
  go_wp2_with fail
  with_reducible refine (HZ.out _).mono ?_
  rintro e w4 ⟨rfl, g4⟩
  have H4 := Lib.hid (H2.out.next0 g4)
  clear g4 c0 c1 c2 c3 c4 H2 HZ
  go_wp2_with fail
  refine (pmnew_yes nC _ HN.out.1.1 HN.out.1.2).mono ?_
  rintro e w5 ⟨a, rfl, d5, hlo, g5⟩
  have HLO := Lib.hid (show ∀ x ∈ a.all, pb < x from fun x hx => by have := hlo x hx; have := H4.out.pl.lt; omega)
  have H5 := Lib.hid (And.intro (H4.out.next0 g5) d5)
  clear d5 g5 hlo H4
  go_wp2_with fail
  refine (wakes10 _).mono ?_
  rintro e w6 ⟨rfl, g6⟩
  have H6 := Lib.hid (And.intro (H5.out.1.next0 g6) (H5.out.2.gr0 g6))
  obtain ⟨c0, c1, c2, c3, c4⟩ := H6.out.1.cfg
  clear g6 H5
  go_wp2_with fail
  with_reducible refine (HMk.out _ a H6.out.2).mono ?_
  rintro e w7 ⟨V, D, B, j, rfl, d7, f7, j7, g7⟩
  have H7 := Lib.hid (And.intro d7 (And.intro f7 (H6.out.1.next g7 HLO.out)))
  clear d7 f7 j7 g7 c0 c1 c2 c3 c4 H6 HMk
  go_wp2_with fail
  refine (HQ.begin (lim := l1) HC.out.1 HC.out.2.1 HC.out.2.2.1 H7.out.2.1 H7.out.1 HN.out.2.1 (by have := HN.out; omega)).mono ?_
  rintro e w8 ⟨X, A, rfl, q8, n8, g8⟩
  have HNW := Lib.hid (show ∀ x ∈ X.all ++ (A.all (cR C) ++ a.all), pb < x from fun x hx => by
    rcases List.mem_append.1 hx with hx | hx
    · have h1 := n8 x (List.mem_append.2 (.inl hx))
      have h2 := H7.out.2.2.pl.lt
      omega
    · rcases List.mem_append.1 hx with hx | hx
      · have h1 := n8 x (List.mem_append.2 (.inr hx))
        have h2 := H7.out.2.2.pl.lt
        omega
      · exact HLO.out x hx)
  have H8 := Lib.hid (And.intro (H7.out.2.2.next0 g8) q8)
  clear q8 n8 g8 H7 HLO
  go_wp2_with fail
  refine (H8.out.2.len).mono ?_
  rintro e w9 ⟨rfl, rfl⟩
  rw [← HC.out.2.2.2.1]
  have hG1 : ¬ ((G : Int) < 1) := by have := HC.out.2.2.2.2; omega
  go_upto_region 8 with fail
  clear hG1
  obtain ⟨y1, y2, y3, y4⟩ := HY.out
  have e2 : w9.cell? ⟨bA + 1 + 1, 2, none⟩ = some (.int .u16 (r3 : Int)) := H8.out.1.cu.cell 2
  go_wp2_with fail
  clear y1 y2 y3 y4 e2 HY
  go_loopw [67] (fun z wr => ∃ (n : Nat) (Y : Nat → Nat → Nat → Nat), z = .int .i64 (n : Int) ∧ n ≤ K ∧ Hid (Tp w bA pb C s t p q r3 wr ∧ HQ C X A a l1 Y n wr)) (fun z _ => K - (intOf z).toNat)
  case atStart => exact ⟨0, _, rfl, by omega, H8⟩
  case round =>
    clear H8
    obtain ⟨n, Y, rfl, hn, HH⟩ := hrel
    by_cases hnK : n < K
    · skip
      have im : (n : Int) < (K : Int) := by omega
      have HNK := Lib.hid hnK
      have hw : IntKind.i64.wrap ((n : Int) + 1) = (n : Int) + 1 := IntWalk.i64_in _ (by have := HK.out; omega)
      obtain ⟨g1, hg1⟩ : ∃ x, x = n % G := ⟨_, rfl⟩
      obtain ⟨k1, hk1⟩ : ∃ x, x = n % 8 := ⟨_, rfl⟩
      have HG1 := Lib.hid (show g1 < pgC C ∧ k1 < 8 from ⟨by rw [← HC.out.2.2.2.1, hg1]; exact Nat.mod_lt _ (by have := HC.out.2.2.2.2; omega), by rw [hk1]; exact Nat.mod_lt _ (by omega)⟩)
      have y1 : (n : Int).tmod (G : Int) = (g1 : Int) := by rw [hg1]; exact (Int.ofNat_tmod n G).symm
      have y2 : (n : Int).tmod 8 = (k1 : Int) := by rw [hk1]; exact (Int.ofNat_tmod n 8).symm
      have y3 : IntKind.i64.wrap (g1 : Int) = (g1 : Int) := IntWalk.i64_in _ (by have := HC.out.2.2.1; have := HG1.out; omega)
      have y4 : IntKind.i64.wrap (k1 : Int) = (k1 : Int) := IntWalk.i64_in _ (by have := HG1.out; omega)
      have nz : ¬ (G : Int) = 0 := by have := HC.out.2.2.2.2; omega
      have nz2 : ((G : Int) == 0) = false := by simp; exact fun e => nz (by omega)
      clear hnK hn hg1 hk1
      go_upto_region 11 with fail
      have kr := kp_cell (HH.out.1.ar.cell 0)
      have hne := kp_ne wr
      have HLn := Lib.hid (fun (x : Cls (Kp wr)) => ((HH.out.2.gr0 (Gr.ofBelow (cs := []) x.h)).len).mono fun e w2 q => And.intro q.1 (show Below _ _ w2 from by rw [q.2]; exact (Gr.refl [] _).below0))
      rw [← HC.out.2.2.2.1] at HLn
      refine wp_region_kp_tail 10 (by kernel_rfl) (by kernel_rfl) ?_
      simp only [List.take_succ_cons, List.take_zero, List.drop_succ_cons, List.drop_zero]
      repeat (go_big_quiet_step ((rename_i x; first
        | with_reducible exact kp_call x (HLn.out x)
        | with_reducible exact kp_call x ((HFS.out _).mono fun _ _ q => ⟨q.1, q.2.below0⟩))))
      with_reducible refine wpQuiet_nil ?_
      rintro _ ⟨y, rfl⟩
      have gy := Gr.ofBelow (cs := []) y.h
      have H9 := Lib.hid (And.intro (HH.out.1.next0 gy) (HH.out.2.gr0 gy))
      clear kr hne HLn HH gy y1 y2 y3 y4 nz nz2
      generalize y.w = w9 at *
      clear y
      have herr : errH C (g1 : Int) (k1 : Int) = 0 := if_neg (by have := HG1.out; omega)
      have HPt := Lib.hid (H9.out.2.put (by have := HNK.out; have := HK.out; omega) (g1 : Int) (k1 : Int) S HS.out)
      rw [herr] at HPt
      clear herr
      go_wp2_with fail
      refine HPt.out.mono ?_
      rintro e w10 ⟨rfl, q10, g10⟩
      have H10 := Lib.hid (And.intro (H9.out.1.next g10 HNW.out) q10)
      clear q10 g10 HPt H9
      go_wp2_with fail
      go_roundw
      case rel => exact ⟨n + 1, _, by go_num, HNK.out, H10⟩
      case measure => have := HNK.out; simp [intOf]; omega
    · obtain rfl : n = K := by omega
      have im : ¬ ((n : Int) < (n : Int)) := by omega
      clear hnK hn
      go_upto_region 14 with fail
      have hmm := @run_makeMap Tryz.prog
      have gm := (Gr.refl [] wr).alloc (.map #[] 0)
      have hm := MapP.made (E := textE) (k := 55) wr
      have HB := Lib.hid (show Tm w bA pb wr.heap.size C s t p q r3 Y 0 (wr.alloc (.map #[] 0)) ∧ HQ C X A a l1 Y n (wr.alloc (.map #[] 0)) from ⟨⟨HH.out.1.next0 gm, by rw [wasF_zero]; exact hm, by have := HH.out.1.pl.lt; omega⟩, HH.out.2.gr0 gm⟩)
      have HMB := Lib.hid (show ∀ x ∈ X.all ++ (A.all (cR C) ++ a.all), pb < x ∧ x ≠ wr.heap.size from fun x hx => ⟨HNW.out x hx, fun e => by have := HL.lt HH.out.2 x hx; omega⟩)
      go_wp2_with fail
      clear hm gm HH HNW hmm im
      generalize wr.alloc (.map #[] 0) = w9 at *
      obtain ⟨mb, hmb⟩ : ∃ mb, wr.heap.size = mb := ⟨_, rfl⟩
      rw [hmb] at HB HMB ⊢
      clear hmb
      refine (HB.out.2.len).mono ?_
      rintro e w10 ⟨rfl, rfl⟩
      rw [← HC.out.2.2.2.1]
      go_wp2_with fail
      go_loopw [86] (fun z wr => ∃ i : Nat, z = .int .i64 (i : Int) ∧ i ≤ G ∧ Hid (Tm w bA pb mb C s t p q r3 Y (8 * i) wr ∧ HQ C X A a l1 Y n wr)) (fun z _ => G - (intOf z).toNat)
      case atStart => exact ⟨0, rfl, by omega, HB⟩
      case round =>
        clear HB
        obtain ⟨i, rfl, hi, HH⟩ := hrel
        by_cases hiG : i < G
        · skip
          have im : (i : Int) < (G : Int) := by omega
          have HIG := Lib.hid (show i < pgC C by rw [← HC.out.2.2.2.1]; exact hiG)
          have HIM := Lib.hid hiG
          have hw : IntKind.i64.wrap ((i : Int) + 1) = (i : Int) + 1 := IntWalk.i64_in _ (by have := HC.out.2.2.2.2; omega)
          clear hiG hi
          go_wp2_with fail
          go_loopw [89] (fun z wr => ∃ k : Nat, z = .int .i64 (k : Int) ∧ k ≤ 8 ∧ Hid (Tm w bA pb mb C s t p q r3 Y (8 * i + k) wr ∧ HQ C X A a l1 Y n wr)) (fun z _ => 8 - (intOf z).toNat)
          case atStart => exact ⟨0, rfl, by omega, HH⟩
          case round =>
            clear HH
            obtain ⟨k, rfl, hk, HH⟩ := hrel
            by_cases hk8 : k < 8
            · as_aux_lemma =>
                have ik : (k : Int) < 8 := by omega
                have HK8 := Lib.hid hk8
                have hwk : IntKind.i64.wrap ((k : Int) + 1) = (k : Int) + 1 := IntWalk.i64_in _ (by omega)
                have HTx := Lib.hid (HL.text HH.out.2 i k HIG.out hk8)
                obtain ⟨TT, hTT⟩ : ∃ T, T = tY Y i k := ⟨_, rfl⟩
                rw [← hTT] at HTx
                have HTT := Lib.hid hTT
                have HZ1 := Lib.hid (show WfZ (i : Int) ∧ WfZ (k : Int) from ⟨wfZ (by omega) (by have := HIM.out; have := HC.out.2.2.2.2; omega), wfZ (by omega) (by omega)⟩)
                clear hTT hk8 hk
                go_upto_region 21 with fail
                go_wp2_with fail
                refine (HTx.out.2.2).mono ?_
                rintro e w11 ⟨rfl, g11⟩
                have H11 := Lib.hid (And.intro (HH.out.1.next0 g11) (HH.out.2.gr0 g11))
                have HG11 := Lib.hid g11
                clear g11 HH
                go_wp2_with (refine wp_putP rfl _ _ _ rfl rfl H11.out.1.mp (by unfold maxLen; have := HIM.out; have := HK8.out; have := HC.out.2.2.2.2; omega) pair10 Tryz.underlying88 (i : Int) (k : Int) rfl HZ1.out.1 HZ1.out.2 TT rfl ?_)
                intro w12 hm gm hsz
                have HX := Lib.hid (show Tm w bA pb mb C s t p q r3 Y (8 * i + (k + 1)) w12 ∧ HQ C X A a l1 Y n w12 from ⟨H11.out.1.put gm (by
                  rw [HTT.out, wasF_succ Y HK8.out] at hm
                  exact hm), H11.out.2.gr gm fun x hx e => (HMB.out x hx).2 (List.mem_singleton.1 e)⟩)
                clear hm gm hsz H11
                go_wp2_with fail
                go_roundw
                case rel => exact ⟨k + 1, by go_num, HK8.out, HX⟩
                case measure => have := HK8.out; simp [intOf]; omega
            · obtain rfl : k = 8 := by omega
              have ik : ¬ ((8 : Int) < 8) := by omega
              clear hk8 hk
              go_wp2_with fail
              go_roundw
              case rel => exact ⟨i + 1, by go_num, HIM.out, by rw [show 8 * (i + 1) = 8 * i + 8 by omega]; exact HH⟩
              case measure => have := HIM.out; simp [intOf]; omega
        · obtain rfl : i = G := by omega
          have im : ¬ ((i : Int) < (i : Int)) := by omega
          clear hiG hi
          go_upto_region 25 with fail
          obtain ⟨w10, hw10⟩ : ∃ w10, w10 = wr := ⟨_, rfl⟩
          rw [← hw10] at HH ⊢
          clear hw10 im
          obtain ⟨kf, hkf⟩ : ∃ kf : Nat → Bool, ∀ k, kf k = (bits .and .u16 ((q : Int) / 2 ^ k) 1 == 1) := ⟨fun k => (bits .and .u16 ((q : Int) / 2 ^ k) 1 == 1), fun _ => rfl⟩
          have HKF := Lib.hid hkf
          clear hkf
          go_upto_region 26 with fail
          go_loopw [17, 105] (fun v z wr => ∃ k : Nat, k ≤ 16 ∧ z = .int .i64 (k : Int) ∧ wr.ownsRow w10.heap.size 4 1 v k ((List.range k).map fun j => .bool (kf j)) ∧ Gr [] w10 wr) (fun _ z _ => 16 - (intOf z).toNat)
          case atStart => exact ⟨0, by omega, rfl, World.ownsRow_nil _ _ _ _, Gr.refl _ _⟩
          case round =>
            obtain ⟨k8, hk, rfl, hown, g⟩ := hrel
            by_cases hlt : k8 < 16
            · as_aux_lemma =>
                have hd : decide ((k8 : Int) < 16) = true := by simp; omega
                have hq1 : wr.cell? ⟨bA + 1 + 1, 1, none⟩ = some (.int .u16 (q : Int)) := (HH.out.1.tp.cu.gr0 g).cell 1
                have hsz := g.size
                have HG := Lib.hid (And.intro hown g)
                clear g
                obtain ⟨hi, hz0, hz1, hz2⟩ := HIN.out
                go_wp2_with (at_builtin; refine wpList_append_own _ rfl _ _ 52 rfl w10.heap.size 4 i0 (.bool false) 1 1 Tryz.underlying52 hi hz0 hz1 hz2 rfl (by decide) _ _ _ rfl (hown.alloc _) ⟨wr.heap.size, 0, none⟩ 1 1 [.bool (bits .and .u16 ((q : Int) / 2 ^ k8) 1 == 1)] rfl rfl ?c1 ?c2 ?c3 ?c4 ?c5 ?_)
                case c1 =>
                  intro a u ha
                  match a, ha with
                  | 0, ha => simp at ha; subst ha; simp [Addr.add]
                case c2 => intro u hu; simp at hu; subst hu; rfl
                case c3 => unfold maxLen; omega
                case c4 => omega
                case c5 => simp; omega
                intro v' w17 hown3 hgrow _
                have HN2 := Lib.hid (show w17.ownsRow w10.heap.size 4 1 v' (k8 + 1) ((List.range (k8 + 1)).map fun j => .bool (kf j)) ∧ Gr [] w10 w17 from by
                  refine ⟨?_, ?_⟩
                  · rw [List.range_succ, List.map_append]
                    show w17.ownsRow w10.heap.size 4 1 v' (k8 + 1) (_ ++ [.bool (kf k8)])
                    rw [HKF.out k8]
                    exact hown3
                  · exact ((HG.out.2.alloc _).grown hgrow (fun x hx => .inr (hown.lt x hx).1)))
                clear hown3 hgrow hown hq1 hi hz0 hz1 hz2
                go_wp2_with fail
                go_roundw
                case rel => exact ⟨k8 + 1, by omega, by go_num, HN2.out.1, HN2.out.2⟩
                case measure => simp [intOf]; omega
            · obtain rfl : k8 = 16 := by omega
              obtain ⟨gk, cap, hv, hlow, hkb⟩ := keep_of16 hown
              subst hv
              have HG6 := Lib.hid (show pb < gk ∧ ∀ x ∈ X.all ++ (A.all (cR C) ++ a.all), pb < x ∧ x ≠ mb ∧ x ≠ gk from ⟨by have := HH.out.1.tp.pl.lt; omega, fun x hx => ⟨(HMB.out x hx).1, (HMB.out x hx).2, fun q => by have := HL.lt HH.out.2 x hx; omega⟩⟩)
              have H6 := Lib.hid (And.intro (show Tz w bA pb mb gk cap C s t p q r3 Y (8 * i) kf wr from ⟨HH.out.1.next0 g, hkb, HG6.out.1⟩) (HH.out.2.gr0 g))
              have HTy := Lib.hid (show ∀ g k, g < pgC C → k < 8 → (tY Y g k).size = 64 ∧ ∀ m, m < 8 → wdL (tY Y g k).data.toList m = Y g k m from fun g k hg hk => ⟨(HL.text H6.out.2 g k hg hk).1, (HL.text H6.out.2 g k hg hk).2.1⟩)
              clear hown g hlow hkb HH HKF HMB
              rw [show ((16 : Nat) : Int) = 16 from rfl]
              obtain ⟨w6, hw6⟩ : ∃ w6, w6 = wr := ⟨_, rfl⟩
              rw [← hw6] at H6 ⊢
              clear hw6
              have hp1 := H6.out.1.tm.tp.cu.cell 0
              have hFz := HFz.out.1
              have hFw : IntKind.i64.wrap (Fz : Int) = (Fz : Int) := IntWalk.i64_in _ (by have := HFz.out.2; omega)
              have HFu := Lib.hid (HLg.fuse (HL.any H6.out.2) (Fz : Int) (by have := HFz.out.2; omega))
              go_wp2_with fail
              refine HFu.out.mono ?_
              rintro e w7 ⟨rfl, d7, g7⟩
              have H7 := Lib.hid (And.intro (H6.out.1.next g7 fun x hx => HG6.out.2 x (List.mem_append.2 (.inr (List.mem_append.2 (.inr hx))))) d7)
              clear d7 g7 hp1 hFz hFw HFu H6
              have e1 := H7.out.1.tm.tp.ar.cell 1
              go_wp2_with fail
              refine (HFT.out _).mono ?_
              rintro e w8 ⟨rfl, g8⟩
              have H8 := Lib.hid (And.intro (H7.out.1.next0 g8) (H7.out.2.gr0 g8))
              clear g8 e1 H7
              have HPt := Lib.hid (H8.out.2.putT (by have := HK.out; omega) HC.out.2.1 T HT.out)
              go_wp2_with fail
              refine HPt.out.mono ?_
              rintro e w9 ⟨x, rfl, hx, g9⟩
              have H9 := Lib.hid (And.intro (H8.out.1.next g9 HG6.out.2) hx)
              clear hx g9 HPt H8
              obtain ⟨E, d9, b9, hb9⟩ := H9.out.2.2
              have HE := Lib.hid (And.intro d9 (And.intro b9 hb9))
              clear d9 b9 hb9
              have HBo := Lib.hid (boot_any a E _ 16 _ w9 HE.out.1 H9.out.1.kb.keep (fun l => by have := HE.out.2.1.2 l; have := HK.out; omega) (by have := HE.out.2.1.1; have := HK.out; omega))
              go_wp2_with fail
              refine HBo.out.mono ?_
              rintro e w10 ⟨rfl, ⟨LL, hLL, d10⟩, g10⟩
              obtain ⟨F3, V3, B3, j3, hfd, Z, z1, z2, z3, z4⟩ := HE.out.2.2 LL (fun j => if j < 16 then kf j else false) hLL
              have H10 := Lib.hid (And.intro (H9.out.1.next g10 fun x hx => HG6.out.2 x (List.mem_append.2 (.inr (List.mem_append.2 (.inr hx))))) (And.intro d10 (And.intro hfd z4)))
              have HZz := Lib.hid (And.intro z1 (And.intro z2 z3))
              have HX0 := Lib.hid H9.out.2.1
              clear hfd z1 z2 z3 z4 hLL d10 g10 HBo H9 HE
              generalize bootD E LL (fun j => if j < 16 then kf j else false) = D10 at *
              go_wp2_with fail
              refine (hopen_Y (lim := l1) HC.out.1 HC.out.2.1 H10.out.2.2.1 H10.out.2.2.2 (by omega) H10.out.2.1 (by have := HK.out; omega) HN.out.2.1 (by have := HN.out; omega)).mono ?_
              rintro e w11 ⟨X3, A3, rfl, h11, n11, g11⟩
              have H11 := Lib.hid (And.intro (H10.out.1.next0 g11) h11)
              clear h11 n11 g11 H10
              go_upto_region 34 with fail
              go_cut [152] (fun c wz => c = .bool false ∧ wz = w11)
              case first =>
                rcases HX0.out with rfl | rfl
                all_goals
                  go_wp2_with fail
                  go_meet
                  exact ⟨rfl, rfl⟩
              case rest =>
                obtain ⟨rfl, hw⟩ := hcut
                rw [← hw] at H11
                clear hw
                go_wp2_with fail
                refine (HL.len H11.out.2).mono ?_
                rintro e w12 ⟨rfl, rfl⟩
                rw [← HC.out.2.2.2.1]
                go_wp2_with fail
                go_loopw [155] (fun z wr => ∃ i1 : Nat, z = .int .i64 (i1 : Int) ∧ i1 ≤ i ∧ Hid (Tz w bA pb mb gk cap C s t p q r3 Y (8 * i) kf wr ∧ HL C X3 A3 a l1 Z (300000 + 42000 * n + 42000 + 1) wr)) (fun z _ => i - (intOf z).toNat)
                case atStart => exact ⟨0, rfl, by omega, H11⟩
                case round =>
                  clear H11
                  obtain ⟨i1, hz1, hi1, HH⟩ := hrel
                  by_cases hiG : i1 < i
                  · have HIG := Lib.hid (show i1 < pgC C by rw [← HC.out.2.2.2.1]; exact hiG)
                    have HIM := Lib.hid hiG
                    by_cases hi0 : i1 = 0
                    · obtain rfl := hi0
                      obtain rfl : _ = Value.int .i64 0 := hz1
                      clear hiG hi1
                      have im : (0 : Int) < (i : Int) := by have := HIM.out; omega
                      have im2 : 0 < i := HIM.out
                      have im3 : decide (0 < i) = true := decide_eq_true HIM.out
                      go_wp2_with fail
                      go_loopw [158] (fun z wr => ∃ k : Nat, z = .int .i64 (k : Int) ∧ k ≤ 8 ∧ Hid (Tz w bA pb mb gk cap C s t p q r3 Y (8 * i) kf wr ∧ HL C X3 A3 a l1 Z (300000 + 42000 * n + 42000 + 1) wr)) (fun z _ => 8 - (intOf z).toNat)
                      case atStart => exact ⟨0, rfl, by omega, HH⟩
                      case round =>
                        clear HH
                        obtain ⟨k, hz, hk, HH⟩ := hrel
                        by_cases hk8 : k < 8
                        · by_cases hk3 : k = 3
                          · as_aux_lemma =>
                              obtain rfl := hk3
                              obtain rfl : _ = Value.int .i64 3 := hz
                              have HK8 := Lib.hid hk8
                              clear hk8 hk
                              have HTx := Lib.hid (HL.text HH.out.2 0 3 HIG.out HK8.out)
                              have HWant := Lib.hid (HTy.out 0 3 HIG.out HK8.out)
                              obtain ⟨got, hgot⟩ : ∃ T, T = tY Z 0 3 := ⟨_, rfl⟩
                              obtain ⟨want, hwant⟩ : ∃ T, T = tY Y 0 3 := ⟨_, rfl⟩
                              rw [← hgot] at HTx
                              rw [← hwant] at HWant
                              have HGW := Lib.hid (And.intro hgot hwant)
                              have HTr := Lib.hid (show Calls Tryz.prog 24 #[.pointer (some ⟨X3.pb, 0, none⟩), .int .i64 0, .int .i64 3] wr (fun e w' => e = .returned (.tuple #[.string got, .int .i64 0]) ∧ Gr [] wr w') from HTx.out.2.2)
                              have HLk := Lib.hid (fun W (g : Gr [] wr W) => (HH.out.1.next0 g).tm.look HIM.out (by have := HC.out.2.2.2.2; omega) HK8.out)
                              rw [← hwant] at HLk
                              have HLl := Lib.hid (show ∀ W, Gr [] wr W → (Instr.lookup 88 (.map (some mb)) (.agg #[.int .i64 0, .int .i64 3]) false).run Tryz.prog W = .ok (.string want) W from HLk.out)
                              clear hgot hwant HLk
                              go_wp2_with fail
                              refine HTr.out.mono ?_
                              rintro e w13 ⟨rfl, g13⟩
                              have H13 := Lib.hid (And.intro (HH.out.1.next0 g13) (HH.out.2.gr0 g13))
                              have hlk := HLl.out _ g13
                              clear g13 HH HLl HTr
                              go_upto_region 44 with fail
                              have HMix := Lib.hid (show mixB want T got = true from mixB_of HWant.out.1 HT.out HTx.out.1 fun m hm => by
                                rw [HTx.out.2.1 m hm, HWant.out.2 m hm]
                                exact HZz.out.2.1 m hm)
                              have HEq := Lib.hid (show x = 0 → got = T from fun e => bytes_eq HTx.out.1 HT.out fun m hm => by
                                rw [HTx.out.2.1 m hm]
                                exact HZz.out.2.2 e m hm)
                              have HSw := Lib.hid (And.intro HWant.out.1 HTx.out.1)
                              go_upto_region 45 with fail
                              have HMi := Lib.hid (fun W => mixed_any want T got W (by rw [HSw.out.1]; exact HML.out) (by rw [HT.out]; exact HML.out) (by rw [HSw.out.2]; exact HML.out))
                              rw [HMix.out] at HMi
                              clear hlk
                              have e1 := H13.out.1.tm.tp.ar.cell 1
                              rcases HX0.out with rfl | rfl
                              · obtain rfl := HEq.out rfl
                                go_wp2_with fail
                                refine (HFT.out _).mono ?_
                                rintro e w14 ⟨rfl, g14⟩
                                have H14 := Lib.hid (And.intro (H13.out.1.next0 g14) (H13.out.2.gr0 g14))
                                clear g14 e1 H13
                                go_wp2_with fail
                                refine (HMi.out _).mono ?_
                                rintro e w15 ⟨rfl, g15⟩
                                have H15 := Lib.hid (And.intro (H14.out.1.next0 g15) (H14.out.2.gr0 g15))
                                have e1 := H15.out.1.tm.tp.ar.cell 1
                                clear g15 H14 HMi
                                go_wp2_with fail
                                refine (HFT.out _).mono ?_
                                rintro e w16 ⟨rfl, g16⟩
                                have H16 := Lib.hid (And.intro (H15.out.1.next0 g16) (H15.out.2.gr0 g16))
                                clear g16 e1 H15
                                go_wp2_with fail
                                go_roundw
                                case rel => exact ⟨4, by go_num, by omega, H16⟩
                                case measure => simp [intOf]
                              · go_wp2_with fail
                                refine (HFT.out _).mono ?_
                                rintro e w14 ⟨rfl, g14⟩
                                have H14 := Lib.hid (And.intro (H13.out.1.next0 g14) (H13.out.2.gr0 g14))
                                clear g14 e1 H13
                                go_wp2_with fail
                                refine (HMi.out _).mono ?_
                                rintro e w15 ⟨rfl, g15⟩
                                have H15 := Lib.hid (And.intro (H14.out.1.next0 g15) (H14.out.2.gr0 g15))
                                clear g15 H14 HMi
                                go_wp2_with fail
                                go_roundw
                                case rel => exact ⟨4, by go_num, by omega, H15⟩
                                case measure => simp [intOf]
                          · as_aux_lemma =>
                              subst hz
                              have ik : (k : Int) < 8 := by omega
                              have HK8 := Lib.hid hk8
                              have hwk : IntKind.i64.wrap ((k : Int) + 1) = (k : Int) + 1 := IntWalk.i64_in _ (by omega)
                              clear hk8 hk
                              have HTx := Lib.hid (HL.text HH.out.2 0 k HIG.out HK8.out)
                              have HWant := Lib.hid (HTy.out 0 k HIG.out HK8.out)
                              obtain ⟨got, hgot⟩ : ∃ T, T = tY Z 0 k := ⟨_, rfl⟩
                              obtain ⟨want, hwant⟩ : ∃ T, T = tY Y 0 k := ⟨_, rfl⟩
                              rw [← hgot] at HTx
                              rw [← hwant] at HWant
                              have HGW := Lib.hid (And.intro hgot hwant)
                              have HTr := Lib.hid (show Calls Tryz.prog 24 #[.pointer (some ⟨X3.pb, 0, none⟩), .int .i64 0, .int .i64 (k : Int)] wr (fun e w' => e = .returned (.tuple #[.string got, .int .i64 0]) ∧ Gr [] wr w') from HTx.out.2.2)
                              have HLk := Lib.hid (fun W (g : Gr [] wr W) => (HH.out.1.next0 g).tm.look HIM.out (by have := HC.out.2.2.2.2; omega) HK8.out)
                              rw [← hwant] at HLk
                              have HLl := Lib.hid (show ∀ W, Gr [] wr W → (Instr.lookup 88 (.map (some mb)) (.agg #[.int .i64 0, .int .i64 (k : Int)]) false).run Tryz.prog W = .ok (.string want) W from HLk.out)
                              clear hgot hwant HLk
                              go_wp2_with fail
                              refine HTr.out.mono ?_
                              rintro e w13 ⟨rfl, g13⟩
                              have H13 := Lib.hid (And.intro (HH.out.1.next0 g13) (HH.out.2.gr0 g13))
                              have hlk := HLl.out _ g13
                              clear g13 HH HLl HTr
                              go_upto_region 44 with fail
                              have q1 : ((k : Int) == 3) = false := by simp; omega
                              have q2 : (k == 3) = false := by simp; omega
                              have q3 : decide ((k : Int) = 3) = false := by simp; omega
                              have q4 : decide (k = 3) = false := by simp; omega
                              have HGW2 := Lib.hid (show got = want from by
                                rw [HGW.out.1, HGW.out.2]
                                exact tY_far (HTy.out 0 k HIG.out HK8.out) (fun m hm => HZz.out.1 0 k m HIG.out HK8.out hm (by omega)))
                              obtain rfl := HGW2.out
                              go_wp2_with fail
                              clear hlk
                              go_roundw
                              case rel => exact ⟨k + 1, by go_num, HK8.out, H13⟩
                              case measure => have := HK8.out; simp [intOf]; omega
                        · subst hz
                          obtain rfl : k = 8 := by omega
                          have ik : ¬ ((8 : Int) < 8) := by omega
                          clear hk8 hk
                          go_wp2_with fail
                          go_roundw
                          case rel => exact ⟨1, by go_num, HIM.out, HH⟩
                          case measure => have := HIM.out; simp [intOf] <;> omega
                    · subst hz1
                      clear hiG hi1
                      have im : (i1 : Int) < (i : Int) := by have := HIM.out; omega
                      have hw : IntKind.i64.wrap ((i1 : Int) + 1) = (i1 : Int) + 1 := IntWalk.i64_in _ (by have := HC.out.2.2.2.2; have := HIM.out; omega)
                      have p1 : ((i1 : Int) == 0) = false := by simp; omega
                      have p2 : (i1 == 0) = false := by simp; omega
                      have p3 : decide ((i1 : Int) = 0) = false := by simp; omega
                      have p4 : decide (i1 = 0) = false := by simp; omega
                      go_wp2_with fail
                      go_loopw [158] (fun z wr => ∃ k : Nat, z = .int .i64 (k : Int) ∧ k ≤ 8 ∧ Hid (Tz w bA pb mb gk cap C s t p q r3 Y (8 * i) kf wr ∧ HL C X3 A3 a l1 Z (300000 + 42000 * n + 42000 + 1) wr)) (fun z _ => 8 - (intOf z).toNat)
                      case atStart => exact ⟨0, rfl, by omega, HH⟩
                      case round =>
                        clear HH
                        obtain ⟨k, hz, hk, HH⟩ := hrel
                        by_cases hk8 : k < 8
                        · as_aux_lemma =>
                            subst hz
                            have ik : (k : Int) < 8 := by omega
                            have HK8 := Lib.hid hk8
                            have hwk : IntKind.i64.wrap ((k : Int) + 1) = (k : Int) + 1 := IntWalk.i64_in _ (by omega)
                            clear hk8 hk
                            have HTx := Lib.hid (HL.text HH.out.2 i1 k HIG.out HK8.out)
                            have HWant := Lib.hid (HTy.out i1 k HIG.out HK8.out)
                            obtain ⟨got, hgot⟩ : ∃ T, T = tY Z i1 k := ⟨_, rfl⟩
                            obtain ⟨want, hwant⟩ : ∃ T, T = tY Y i1 k := ⟨_, rfl⟩
                            rw [← hgot] at HTx
                            rw [← hwant] at HWant
                            have HGW := Lib.hid (And.intro hgot hwant)
                            have HTr := Lib.hid (show Calls Tryz.prog 24 #[.pointer (some ⟨X3.pb, 0, none⟩), .int .i64 (i1 : Int), .int .i64 (k : Int)] wr (fun e w' => e = .returned (.tuple #[.string got, .int .i64 0]) ∧ Gr [] wr w') from HTx.out.2.2)
                            have HLk := Lib.hid (fun W (g : Gr [] wr W) => (HH.out.1.next0 g).tm.look HIM.out (by have := HC.out.2.2.2.2; omega) HK8.out)
                            rw [← hwant] at HLk
                            have HLl := Lib.hid (show ∀ W, Gr [] wr W → (Instr.lookup 88 (.map (some mb)) (.agg #[.int .i64 (i1 : Int), .int .i64 (k : Int)]) false).run Tryz.prog W = .ok (.string want) W from HLk.out)
                            clear hgot hwant HLk
                            go_wp2_with fail
                            refine HTr.out.mono ?_
                            rintro e w13 ⟨rfl, g13⟩
                            have H13 := Lib.hid (And.intro (HH.out.1.next0 g13) (HH.out.2.gr0 g13))
                            have hlk := HLl.out _ g13
                            clear g13 HH HLl HTr
                            go_upto_region 44 with fail
                            have HGW2 := Lib.hid (show got = want from by
                              rw [HGW.out.1, HGW.out.2]
                              exact tY_far (HTy.out i1 k HIG.out HK8.out) (fun m hm => HZz.out.1 i1 k m HIG.out HK8.out hm (by omega)))
                            obtain rfl := HGW2.out
                            go_wp2_with fail
                            clear hlk
                            go_roundw
                            case rel => exact ⟨k + 1, by go_num, HK8.out, H13⟩
                            case measure => have := HK8.out; simp [intOf]; omega
                        · subst hz
                          obtain rfl : k = 8 := by omega
                          have ik : ¬ ((8 : Int) < 8) := by omega
                          clear hk8 hk
                          go_wp2_with fail
                          go_roundw
                          case rel => exact ⟨i1 + 1, by go_num, HIM.out, HH⟩
                          case measure => have := HIM.out; simp [intOf]; omega
                  · subst hz1
                    obtain rfl : i1 = i := by omega
                    have im : ¬ ((i1 : Int) < (i1 : Int)) := by omega
                    clear hiG hi1
                    go_wp2_with fail
                    go_ret
                    exact ⟨rfl, HH.out.1.tm.tp.gr⟩

end Go.Proofs.YtefmbchebobceaaGreat
