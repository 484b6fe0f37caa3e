/-
  HotAlike's walk.
-/
import Derived.Test.YtefmbchebobceaaGreatHkAa
import Derived.Test.YtefmbchebobceaaGreatHkAb
import Derived.Test.YtefmbchebobceaaGreatHkAc
import Derived.Test.YtefmbchebobceaaGreatHkAd
import Derived.Test.YtefmbchebobceaaGreatHkAe
import Derived.Test.YtefmbchebobceaaGreatHkAf
import Derived.Test.YtefmbchebobceaaGreatHkAg
import Derived.Test.YtefmbchebobceaaGreatHkAh
import Derived.Test.YtefmbchebobceaaGreatHkAi
import Derived.Test.YtefmbchebobceaaGreatHkAj
import Derived.Test.YtefmbchebobceaaGreatHkAk
import Derived.Test.YtefmbchebobceaaGreatHkAl
import Derived.Test.YtefmbchebobceaaGreatHkAm
import Derived.Test.YtefmbchebobceaaGreatHkAn
import Derived.Test.YtefmbchebobceaaGreatHkAo
import Derived.Test.YtefmbchebobceaaGreatHkAp
import Derived.Test.YtefmbchebobceaaGreatHkAq
import Derived.Test.YtefmbchebobceaaGreatHkAr
import Derived.Test.YtefmbchebobceaaGreatHkAs
import Derived.Test.YtefmbchebobceaaGreatHkAt
import Derived.Test.YtefmbchebobceaaGreatHkAu
import Derived.Test.YtefmbchebobceaaGreatHkAv
import Derived.Test.YtefmbchebobceaaGreatHkAw
import Derived.Test.YtefmbchebobceaaGreatHkAx
import Derived.Test.YtefmbchebobceaaGreatHkAy
import Derived.Test.YtefmbchebobceaaGreatHkAz
import Derived.Test.YtefmbchebobceaaGreatHkBa
import Derived.Test.YtefmbchebobceaaGreatHkBb
import Derived.Test.YtefmbchebobceaaGreatHkBc
import Derived.Test.YtefmbchebobceaaGreatHkBd
import Derived.Test.YtefmbchebobceaaGreatHkBe
import Derived.Test.YtefmbchebobceaaGreatHkBf
import Derived.Test.YtefmbchebobceaaGreatHkBg
import Derived.Test.YtefmbchebobceaaGreatHkBh
import Derived.Test.YtefmbchebobceaaGreatHkBi
import Derived.Test.YtefmbchebobceaaGreatHkBj
import Derived.Test.YtefmbchebobceaaGreatHkBk
import Derived.Test.YtefmbchebobceaaGreatHmAb
import Derived.Deep.CutBlock
import Derived.Deep.RegionHeld3

namespace Go.Proofs.YtefmbchebobceaaGreat
open Go.RowKit
set_option linter.unusedVariables false

set_option maxRecDepth 100000 in
set_option maxHeartbeats 40000000 in
theorem halike_law (x0 x1 x2 x3 x4 : Int) (x5 : Nat) (ht : Nat) (v : Value) {w : World} (hx5 : x5 < 18446744073709551616) (hht : ht ≤ 255) (hv : SlM w v) :
    Calls Tryz.prog 8 #[.agg #[.int .i64 x0, .int .i64 x1, .int .i64 x2, .int .i64 x3, .int .i64 x4, .int .u64 (x5 : Int)], .int .u8 (ht : Int), v] w fun e w' => e = .returned (.bool true) ∧ Gr [] w w' := by
  have HV := Lib.hid hv
  obtain ⟨oC, p1, p2, z1, z2⟩ := smC_ok x0 x2 x3 x5 hx5
  have HSm := Lib.hid (fun W => small10 x0 x1 x2 x3 x4 x5 W)
  have hl0 := mx_nonneg x4
  obtain ⟨l1, hl1⟩ : ∃ n : Nat, smL x4 = (n : Int) := ⟨(smL x4).toNat, by unfold smL; omega⟩
  have hl1b : 1 ≤ l1 ∧ l1 ≤ 5 := by unfold smL at hl1; omega
  obtain ⟨h6, hh6⟩ : ∃ x, x = ht % 30 := ⟨_, rfl⟩
  obtain ⟨l2, hl2⟩ : ∃ x, x = 1 + h6 := ⟨_, rfl⟩
  have hl2b : 1 ≤ l2 ∧ l2 ≤ 30 := by omega
  have y1 : (ht : Int).tmod 30 = (h6 : Int) := by rw [Int.tmod_eq_emod_of_nonneg (by omega)]; omega
  have y2 : IntKind.u8.wrap (h6 : Int) = (h6 : Int) := by rw [IntKind.wrap_u8]; omega
  have y3 : IntKind.i64.wrap (h6 : Int) = (h6 : Int) := IntWalk.i64_in _ (by omega)
  have y4 : IntKind.i64.wrap (1 + (h6 : Int)) = (l2 : Int) := by rw [show 1 + (h6 : Int) = (l2 : Int) by omega]; exact IntWalk.i64_in _ (by omega)
  obtain ⟨C, hC⟩ : ∃ C, C = smC x0 x2 x3 x5 := ⟨_, rfl⟩
  rw [← hC] at oC p1 p2 z1 z2 HSm
  rw [hl1] at HSm
  obtain ⟨nC, hnC⟩ : ∃ n : Nat, (n : Int) = sizeC C := ⟨(sizeC C).toNat, by omega⟩
  have HN := Lib.hid (show (1 ≤ nC ∧ nC ≤ 8192) ∧ (1 ≤ l1 ∧ l1 ≤ 5) ∧ (1 ≤ l2 ∧ l2 ≤ 30) by omega)
  have HZ := Lib.hid (fun W => show Calls Tryz.prog 10 #[.agg #[.int .i64 C.r, .int .i64 C.l, .int .i64 C.s, .int .i64 C.psi, .int .u64 (C.key : Int)]] W (fun e w' => e = .returned (.int .i64 (nC : Int)) ∧ Gr [] W w') from by rw [hnC]; exact rsize9 C ⟨oC.r1, oC.r2, oC.ok⟩ W)
  have HMk := Lib.hid (fun W a (d : DevIs W a (newD nC)) => hmake_new (C := C) (n := nC) oC p1 (by omega) d)
  have HC := Lib.hid (And.intro oC (And.intro p1 p2))
  unfold cfgV at HSm HMk
  have HG0 := Lib.hid ((Gr.refl [] w).alloc (Obj.cells #[.int .i64 x0, .int .i64 x1, .int .i64 x2, .int .i64 x3, .int .i64 x4, .int .u64 (x5 : Int)] 24))
  have HH := Lib.hid (Holds.new w #[.int .i64 x0, .int .i64 x1, .int .i64 x2, .int .i64 x3, .int .i64 x4, .int .u64 (x5 : Int)] 24)
  clear hv hC oC p1 p2 z1 z2 hl0 hl1 hl1b hl2b hh6 hl2 hnC hx5 hht
  go_enter Tryz.func8, Tryz.ntmps8
  go_upto_region 1 with fail
  generalize (w.alloc (Obj.cells #[.int .i64 x0, .int .i64 x1, .int .i64 x2, .int .i64 x3, .int .i64 x4, .int .u64 (x5 : Int)] 24)) = w1 at *
  obtain ⟨pb, hpb⟩ : ∃ pb, w.heap.size = pb := ⟨_, rfl⟩
  have HPB := Lib.hid hpb
  rw [hpb] at HH ⊢
  clear hpb
  have c0 := HH.out.cell 0
  have c1 := HH.out.cell 1
  have c2 := HH.out.cell 2
  have c3 := HH.out.cell 3
  have c4 := HH.out.cell 4
  have c5 := HH.out.cell 5
  go_wp2_with fail
  refine (HSm.out _).mono ?_
  rintro e w2 ⟨rfl, g2⟩
  have H2 := Lib.hid (HG0.out.trans g2)
  clear g2 c0 c1 c2 c3 c4 c5 HG0 HH HSm
  go_upto_region 3 with fail
  have ga := ((Gr.refl [] w2).alloc (Obj.cells #[.int .i64 C.r, .int .i64 C.l, .int .i64 C.s, .int .i64 C.psi, .int .u64 (C.key : Int)] 27)).alloc (Obj.cells #[.pointer none, .pointer none] 97)
  have h1 := (Holds.new w2 #[.int .i64 C.r, .int .i64 C.l, .int .i64 C.s, .int .i64 C.psi, .int .u64 (C.key : Int)] 27).alloc (Obj.cells #[.pointer none, .pointer none] 97)
  have h2 := Holds.new (w2.alloc (Obj.cells #[.int .i64 C.r, .int .i64 C.l, .int .i64 C.s, .int .i64 C.psi, .int .u64 (C.key : Int)] 27)) #[.pointer none, .pointer none] 97
  rw [World.size_alloc] at h2
  have H3 := Lib.hid (And.intro (H2.out.trans ga) (And.intro h1 (And.intro h2 H2.out.size)))
  clear ga h1 h2 H2
  generalize (w2.alloc (Obj.cells #[.int .i64 C.r, .int .i64 C.l, .int .i64 C.s, .int .i64 C.psi, .int .u64 (C.key : Int)] 27)).alloc (Obj.cells #[.pointer none, .pointer none] 97) = w3 at *
  obtain ⟨cb, hcb⟩ : ∃ x, w2.heap.size = x := ⟨_, rfl⟩
  rw [hcb] at H3 ⊢
  clear hcb
  obtain ⟨rb, hrb⟩ : ∃ x, cb + 1 = x := ⟨_, rfl⟩
  have HRB := Lib.hid hrb
  rw [hrb] at H3 ⊢
  clear hrb
  go_upto_region 4 with fail
  have ga := (Gr.refl [] w3).alloc (Obj.cells #[.int .i64 (l1 : Int), .int .i64 (l2 : Int)] 3)
  have hs := Holds.new w3 #[.int .i64 (l1 : Int), .int .i64 (l2 : Int)] 3
  have H4 := Lib.hid (show Ag0 w cb rb w3.heap.size C l1 l2 (.pointer none) (.pointer none) _ from ⟨H3.out.1.trans ga, H3.out.2.1.gr0 ga, H3.out.2.2.1.gr0 ga, hs, H3.out.2.2.2, by have := HRB.out; omega, H3.out.2.2.1.lt⟩)
  clear ga hs H3 y1 y2 y3 y4 HRB HPB
  generalize w3.alloc (Obj.cells #[.int .i64 (l1 : Int), .int .i64 (l2 : Int)] 3) = w4 at *
  obtain ⟨sb, hsb⟩ : ∃ x, w3.heap.size = x := ⟨_, rfl⟩
  rw [hsb] at H4 ⊢
  clear hsb
  go_loopw [37] (fun z wr => (z = .int .i64 0 ∧ Hid (Ag0 w cb rb sb C l1 l2 (.pointer none) (.pointer none) wr)) ∨ (z = .int .i64 1 ∧ ∃ (X1 : HtA) (A1 : FlA) (a1 : DevA), Hid (Ag0 w cb rb sb C l1 l2 (.pointer (some ⟨X1.pb, 0, none⟩)) (.pointer none) wr ∧ HQ C X1 A1 a1 l1 (fun _ _ _ => 0) 0 wr ∧ ∀ x ∈ X1.all ++ (A1.all (cR C) ++ a1.all), sb < x)) ∨ (z = .int .i64 2 ∧ ∃ (X1 : HtA) (A1 : FlA) (a1 : DevA) (X2 : HtA) (A2 : FlA) (a2 : DevA), Hid (Ag2 w cb rb sb C l1 l2 X1 A1 a1 X2 A2 a2 (fun _ _ _ => 0) (fun _ _ _ => 0) 0 0 wr))) (fun z _ => 2 - (intOf z).toNat)
  case atStart => exact .inl ⟨rfl, H4⟩
  case round =>
    clear H4
    rcases hrel with ⟨rfl, HA⟩ | ⟨rfl, X1, A1, a1, HA⟩ | ⟨rfl, X1, A1, a1, X2, A2, a2, HA⟩
    · skip
      have i0 : wr.cell? ⟨sb, 0, none⟩ = some (.int .i64 (l1 : Int)) := HA.out.sl.cell 0
      obtain ⟨c0, c1, c2, c3, c4⟩ := HA.out.cfg
      go_wp2_with fail
      with_reducible refine (HZ.out _).mono ?_
      rintro e w5 ⟨rfl, g5⟩
      have H5 := Lib.hid (HA.out.next0 g5)
      have HS5 := Lib.hid (HA.out.next0 g5).sl.lt
      clear g5 i0 c0 c1 c2 c3 c4 HA
      go_wp2_with fail
      refine (pmnew_yes nC _ HN.out.1.1 HN.out.1.2).mono ?_
      rintro e w6 ⟨a, rfl, d6, hlo, g6⟩
      have HLO := Lib.hid (show ∀ x ∈ a.all, sb < x from fun x hx => Nat.lt_of_lt_of_le H5.out.sl.lt (hlo x hx))
      have H6 := Lib.hid (And.intro d6 (H5.out.next0 g6))
      have HS6 := Lib.hid (And.intro g6.size (show ∀ x ∈ a.all, w5.heap.size ≤ x from hlo))
      obtain ⟨c0, c1, c2, c3, c4⟩ := H6.out.2.cfg
      clear d6 g6 hlo H5
      go_wp2_with fail
      with_reducible refine (HMk.out _ a H6.out.1).mono ?_
      rintro e w7 ⟨V, D, B, j, rfl, d7, f7, j7, g7⟩
      have H7 := Lib.hid (And.intro d7 (And.intro f7 (H6.out.2.next g7 HLO.out)))
      have HS7 := Lib.hid (Nat.le_trans HS6.out.1 g7.size)
      clear d7 f7 j7 g7 c0 c1 c2 c3 c4 H6
      go_wp2_with fail
      refine (HQ.begin (lim := l1) HC.out.1 HC.out.2.1 HC.out.2.2 H7.out.2.1 H7.out.1 HN.out.2.1.1 (by have := HN.out; omega)).mono ?_
      rintro e w8 ⟨X, A, rfl, q8, n8, g8⟩
      have HNW := Lib.hid (show ∀ x ∈ X.all ++ (A.all (cR C) ++ a.all), w5.heap.size ≤ x ∧ sb < x from fun x hx => by
        rcases List.mem_append.1 hx with hx | hx
        · have h1 := n8 x (List.mem_append.2 (.inl hx))
          have h2 := HS7.out
          have h3 := HS5.out
          omega
        · rcases List.mem_append.1 hx with hx | hx
          · have h1 := n8 x (List.mem_append.2 (.inr hx))
            have h2 := HS7.out
            have h3 := HS5.out
            omega
          · exact ⟨HS6.out.2 x hx, HLO.out x hx⟩)
      have H8 := Lib.hid (And.intro q8 (H7.out.2.2.next0 g8))
      clear q8 n8 g8 H7
      have r0 := H8.out.2.rg.cell 0
      have fz := H8.out.2.rg.frozen 0
      go_upto_region 11 with fail
      have H9 := Lib.hid (And.intro (H8.out.2.set0 (.pointer (some ⟨X.pb, 0, none⟩))) (H8.out.1.setB (i := 0) (fun x hx => (HNW.out x hx).2) H8.out.2.lt.2.2 (.pointer (some ⟨X.pb, 0, none⟩))))
      clear H8 r0 fz
      generalize w8.setCell ⟨rb, 0, none⟩ (.pointer (some ⟨X.pb, 0, none⟩)) = w9 at *
      have r0 := H9.out.1.rg.cell 0
      go_wp2_with fail
      refine (H9.out.2.len).mono ?_
      rintro e w10 ⟨rfl, rfl⟩
      obtain ⟨G, hG⟩ : ∃ G, G = pgC C := ⟨_, rfl⟩
      have hG1 : ¬ ((G : Int) < 1) := by have := HC.out.2.1; omega
      rw [← hG]
      clear hG
      go_wp2_with fail
      go_roundw
      case rel => exact .inr (.inl ⟨rfl, X, A, a, Lib.hid ⟨H9.out.1, H9.out.2, fun x hx => (HNW.out x hx).2⟩⟩)
      case measure => simp [intOf]
    · skip
      have i0 : wr.cell? ⟨sb, 1, none⟩ = some (.int .i64 (l2 : Int)) := HA.out.1.sl.cell 1
      obtain ⟨c0, c1, c2, c3, c4⟩ := HA.out.1.cfg
      have HOLD := Lib.hid (show ∀ x ∈ X1.all ++ (A1.all (cR C) ++ a1.all), x < wr.heap.size from HL.lt HA.out.2.1)
      go_wp2_with fail
      with_reducible refine (HZ.out _).mono ?_
      rintro e w5 ⟨rfl, g5⟩
      have H5 := Lib.hid (And.intro (HA.out.1.next0 g5) (And.intro (HA.out.2.1.gr0 g5) HA.out.2.2))
      have HS5 := Lib.hid (And.intro H5.out.1.sl.lt g5.size)
      clear g5 i0 c0 c1 c2 c3 c4 HA
      go_wp2_with fail
      refine (pmnew_yes nC _ HN.out.1.1 HN.out.1.2).mono ?_
      rintro e w6 ⟨a, rfl, d6, hlo, g6⟩
      have HLO := Lib.hid (show ∀ x ∈ a.all, sb < x from fun x hx => Nat.lt_of_lt_of_le H5.out.1.sl.lt (hlo x hx))
      have HFO := Lib.hid (show ∀ x ∈ X1.all ++ (A1.all (cR C) ++ a1.all), x ∉ a.all from fun x hx e => by
        have h1 := HOLD.out x hx
        have h2 := hlo x e
        have h3 := HS5.out.2
        omega)
      have H6 := Lib.hid (And.intro d6 (And.intro (H5.out.1.next0 g6) (And.intro (H5.out.2.1.gr0 g6) H5.out.2.2)))
      have HS6 := Lib.hid (And.intro g6.size (show ∀ x ∈ a.all, w5.heap.size ≤ x from hlo))
      obtain ⟨c0, c1, c2, c3, c4⟩ := H6.out.2.1.cfg
      clear d6 g6 hlo H5
      go_wp2_with fail
      with_reducible refine (HMk.out _ a H6.out.1).mono ?_
      rintro e w7 ⟨V, D, B, j, rfl, d7, f7, j7, g7⟩
      have H7 := Lib.hid (And.intro d7 (And.intro f7 (And.intro (H6.out.2.1.next g7 HLO.out) (And.intro (H6.out.2.2.1.gr g7 HFO.out) H6.out.2.2.2))))
      have HS7 := Lib.hid (Nat.le_trans HS6.out.1 g7.size)
      clear d7 f7 j7 g7 c0 c1 c2 c3 c4 H6
      go_wp2_with fail
      refine (HQ.begin (lim := l2) HC.out.1 HC.out.2.1 HC.out.2.2 H7.out.2.1 H7.out.1 HN.out.2.2.1 (by have := HN.out; omega)).mono ?_
      rintro e w8 ⟨X, A, rfl, q8, n8, g8⟩
      have HNW := Lib.hid (show ∀ x ∈ X.all ++ (A.all (cR C) ++ a.all), sb < x ∧ x ∉ X1.all ++ (A1.all (cR C) ++ a1.all) from fun x hx => by
        have h5 : w5.heap.size ≤ x := by
          rcases List.mem_append.1 hx with hx | hx
          · have h1 := n8 x (List.mem_append.2 (.inl hx))
            have h2 := HS7.out
            omega
          · rcases List.mem_append.1 hx with hx | hx
            · have h1 := n8 x (List.mem_append.2 (.inr hx))
              have h2 := HS7.out
              omega
            · exact HS6.out.2 x hx
        have h3 := HS5.out
        refine ⟨by omega, fun e => ?_⟩
        have h4 := HOLD.out x e
        omega)
      have H8 := Lib.hid (And.intro q8 (And.intro (H7.out.2.2.1.next0 g8) (And.intro (H7.out.2.2.2.1.gr0 g8) H7.out.2.2.2.2)))
      clear q8 n8 g8 H7
      have r0 := H8.out.2.1.rg.cell 1
      have fz := H8.out.2.1.rg.frozen 1
      go_upto_region 11 with fail
      have H9 := Lib.hid (show Ag2 w cb rb sb C l1 l2 X1 A1 a1 X A a (fun _ _ _ => 0) (fun _ _ _ => 0) 0 0 _ from ⟨H8.out.2.1.set1 (.pointer (some ⟨X.pb, 0, none⟩)), H8.out.2.2.1.setB (i := 1) H8.out.2.2.2 H8.out.2.1.lt.2.2 (.pointer (some ⟨X.pb, 0, none⟩)), H8.out.1.setB (i := 1) (fun x hx => (HNW.out x hx).1) H8.out.2.1.lt.2.2 (.pointer (some ⟨X.pb, 0, none⟩)), H8.out.2.2.2, HNW.out⟩)
      clear H8 r0 fz
      generalize w8.setCell ⟨rb, 1, none⟩ (.pointer (some ⟨X.pb, 0, none⟩)) = w9 at *
      have r0 := H9.out.b.rg.cell 1
      go_wp2_with fail
      refine (H9.out.B.len).mono ?_
      rintro e w10 ⟨rfl, rfl⟩
      obtain ⟨G, hG⟩ : ∃ G, G = pgC C := ⟨_, rfl⟩
      have hG1 : ¬ ((G : Int) < 1) := by have := HC.out.2.1; omega
      rw [← hG]
      clear hG
      go_wp2_with fail
      go_roundw
      case rel => exact .inr (.inr ⟨rfl, X1, A1, a1, X, A, a, H9⟩)
      case measure => simp [intOf]
    · skip
      go_upto_region 14 with fail
      go_cut [80, 81, 82] (fun sv nv iv wz => wz = wr ∧ iv = .int .i64 0 ∧ ∃ (M cap : Nat) (ao : Option Addr), sv = .slice ao M cap ∧ nv = .int .i64 (M : Int) ∧ M ≤ 40 ∧ ∀ k, k < M → ∃ (vb off : Nat) (x : ActM), ao = some ⟨vb, off, none⟩ ∧ vb < w.heap.size ∧ ActMIs w x ∧ ActMAt w vb (off + k * 7) x)
      case first =>
        rcases HV.out with ⟨ao, cap, rfl, hn, hm⟩ | ⟨vb, off, N, cap, xs, rfl, h1, h2, h3, h4, h5⟩
        · have hmn := minIsA Tryz.prog 0 0 40 40 rfl rfl
          have HNN := Lib.hid hn
          unfold maxLen at hm
          clear hn HV
          cases ao
          case none =>
            obtain rfl := HNN.out rfl
            go_wp2_with fail
            go_meet
            exact ⟨rfl, rfl, 0, 0, none, rfl, rfl, by omega, fun k hk => by omega⟩
          case some ad =>
            go_wp2_with fail
            go_meet
            exact ⟨rfl, rfl, 0, _, _, rfl, rfl, by omega, fun k hk => by omega⟩
        · obtain ⟨M, hM⟩ : ∃ M, M = min N 40 := ⟨_, rfl⟩
          have hmn := minIsA Tryz.prog N M 40 40 rfl hM
          have hM1 : M ≤ N := by omega
          have HM12 := Lib.hid (show M ≤ 40 by omega)
          have HCl := Lib.hid h5
          have HVB := Lib.hid h4
          unfold maxLen at h3
          clear hM h4 h5 HV
          have HML1 := Lib.hid hM1
          go_wp2_with fail
          go_meet
          exact ⟨rfl, rfl, M, _, _, rfl, rfl, HM12.out, fun k hk => ⟨vb, off, xs k, rfl, HVB.out, HCl.out k (by have := HML1.out; omega)⟩⟩
      case rest =>
        obtain ⟨rfl, rfl, M, cap, ao, rfl, rfl, hM40, hcl⟩ := hcut
        have HCl := Lib.hid hcl
        have HM40 := Lib.hid hM40
        clear hcl HV hM40
        go_wp2_with fail
        go_loopw [82] (fun z wr => ∃ (n : Nat) (Y : Nat → Nat → Nat → Nat), n ≤ M ∧ z = .int .i64 (n : Int) ∧ Hid (Ag2 w cb rb sb C l1 l2 X1 A1 a1 X2 A2 a2 Y Y n n wr)) (fun z _ => M - (intOf z).toNat)
        case atStart => exact ⟨0, _, by omega, rfl, HA⟩
        case round =>
          clear HA
          obtain ⟨n, Y, hn, rfl, HA⟩ := hrel
          by_cases hnM : n < M
          · skip
            obtain ⟨vb, off, x, rfl, hvb, hxi, e0, e1, e2, e3, e4, e5, e6⟩ := HCl.out n hnM
            have e0 := (HA.out.b.gr.cell0 hvb).trans e0
            have e1 := (HA.out.b.gr.cell0 hvb).trans e1
            have e2 := (HA.out.b.gr.cell0 hvb).trans e2
            have e3 := (HA.out.b.gr.cell0 hvb).trans e3
            have e4 := (HA.out.b.gr.cell0 hvb).trans e4
            have e5 := (HA.out.b.gr.cell0 hvb).trans e5
            have e6 := (HA.out.b.gr.cell0 hvb).trans e6
            obtain ⟨xd, xz, xl, xk, xv, xs, xao, xkl, xkc, xkp⟩ := x
            dsimp only at e0 e1 e2 e3 e4 e5 e6
            have hxsz : xs.size ≤ 9223372036854775807 := by have := hxi.2.2.2.2.2.1; unfold maxLen at this; dsimp only at this; omega
            have ik : (n : Int) < (M : Int) := by omega
            have HNM := Lib.hid (show n + 1 ≤ M by omega)
            have hk0 : (0 : Int) ≤ (n : Int) := by omega
            obtain ⟨m8, hm8⟩ : ∃ m, m = min xs.size 64 := ⟨_, rfl⟩
            have hmn := minIsA Tryz.prog xs.size m8 64 64 rfl hm8
            have hm8a : m8 ≤ xs.size := by omega
            have HM8 := Lib.hid (show m8 ≤ 64 by omega)
            have HN40 := Lib.hid (show n < 40 by have := HM40.out; omega)
            clear hxi hvb hm8
            go_upto_region 17 with fail
            have ht := Holds.new wr #[.int .i64 xd, .int .i64 xz, .int .i64 xl, .int .i64 xk, .int .u64 (xv : Int), .string xs, .slice xao xkl xkc] 54
            have ga := (Gr.refl [] wr).alloc (Obj.cells #[.int .i64 xd, .int .i64 xz, .int .i64 xl, .int .i64 xk, .int .u64 (xv : Int), .string xs, .slice xao xkl xkc] 54)
            have HC1 := Lib.hid (HA.out.next0 ga)
            have HT := Lib.hid ht
            have HTN := Lib.hid (show wr.heap.size ∉ X1.all ++ (A1.all (cR C) ++ a1.all) ∧ wr.heap.size ∉ X2.all ++ (A2.all (cR C) ++ a2.all) from ⟨fun e => by have := HL.lt HA.out.A _ e; omega, fun e => by have := HL.lt HA.out.B _ e; omega⟩)
            clear ht ga e0 e1 e2 e3 e4 e5 e6 HA
            generalize (wr.alloc (Obj.cells #[.int .i64 xd, .int .i64 xz, .int .i64 xl, .int .i64 xk, .int .u64 (xv : Int), .string xs, .slice xao xkl xkc] 54)) = w4 at *
            obtain ⟨tb, htb⟩ : ∃ tb, wr.heap.size = tb := ⟨_, rfl⟩
            rw [htb] at HT HTN ⊢
            clear htb
            have c5 := HT.out.cell 5
            have HFl := Lib.hid (fun W => full10 (xs.extract 0 m8) W (by rw [ByteArray.size_extract]; have := HM8.out; omega))
            obtain ⟨S, hS⟩ : ∃ S, S = fullS (xs.extract 0 m8) := ⟨_, rfl⟩
            rw [← hS] at HFl
            have HS64 := Lib.hid (show S.size = 64 by rw [hS]; exact fullS_size _)
            clear hS
            go_wp2_with fail
            refine (HFl.out _).mono ?_
            rintro e w5 ⟨rfl, g5⟩
            have HC5 := Lib.hid (HC1.out.next0 g5)
            have HT5 := Lib.hid (HT.out.gr0 g5)
            clear g5 c5 HC1 HT HFl hmn hm8a hxsz
            go_upto_region 18 with fail
            obtain ⟨zz, hzz⟩ : ∃ zz, errH C xz xl = zz := ⟨_, rfl⟩
            have HPA := Lib.hid (fun (W : World) (h : HQ C X1 A1 a1 l1 Y n W) => h.put (by have := HN40.out; omega) xz xl S HS64.out)
            have HPB := Lib.hid (fun (W : World) (h : HQ C X2 A2 a2 l2 Y n W) => h.put (by have := HN40.out; omega) xz xl S HS64.out)
            rw [hzz] at HPA HPB
            obtain ⟨Y2, hY2⟩ : ∃ Y2, putY C Y xz xl S = Y2 := ⟨_, rfl⟩
            rw [hY2] at HPA HPB
            clear hzz hY2
            have s0 := ag59 HC5.out.b HT5.out
            go_region_held3 (fun w' : World => w'.cell? ⟨rb, 0, none⟩ = some (.pointer (some ⟨X1.pb, 0, none⟩)) ∧ w'.cell? ⟨rb, 1, none⟩ = some (.pointer (some ⟨X2.pb, 0, none⟩)) ∧ w'.cell? ⟨tb, 1, none⟩ = some (.int .i64 xz) ∧ w'.cell? ⟨tb, 2, none⟩ = some (.int .i64 xl)) (first | assumption | go_keep) ((first
              | (go_at_call 20; (with_reducible refine Calls.mono (HPB.out _ H6.out.1.B) ?_); rintro e w7 ⟨rfl, r7, g7⟩; have H7 := Lib.hid (And.intro (H6.out.1.put2 g7 r7) (H6.out.2.gr g7 HTN.out.2)); have s7 := ag59 H7.out.1.b H7.out.2; clear r7 g7)
              | (go_at_call 20; (with_reducible refine Calls.mono (HPA.out _ (HC5.out.next0 (Gr.refl [] w5).drew).A) ?_); rintro e w6 ⟨rfl, r6, g6⟩; have H6 := Lib.hid (And.intro ((HC5.out.next0 (Gr.refl [] w5).drew).put1 g6 r6) ((HT5.out.gr0 (Gr.refl [] w5).drew).gr g6 HTN.out.1)); have s6 := ag59 H6.out.1.b H6.out.2; clear r6 g6)))
            clear HPA HPB s0 s6 s7 H6 HC5 HT5
            go_wp2_with fail
            go_loopw [113] (fun z wr => ∃ k : Nat, k ≤ 8 ∧ z = .int .i64 (k : Int) ∧ Hid (Ag2 w cb rb sb C l1 l2 X1 A1 a1 X2 A2 a2 Y2 Y2 (n + 1) (n + 1) wr)) (fun z _ => 8 - (intOf z).toNat)
            case atStart => exact ⟨0, by omega, rfl, Lib.hid H7.out.1⟩
            case round =>
              clear H7
              obtain ⟨k, hkl, rfl, HA⟩ := hrel
              by_cases hkp : k < 8
              · have il : (k : Int) < 8 := by omega
                have HKP := Lib.hid hkp
                clear hkp
                have hw : IntKind.i64.wrap ((k : Int) + 1) = (k : Int) + 1 := IntWalk.i64_in _ (by have := HKP.out; omega)
                obtain ⟨T, t1, t2⟩ := HQ.same HA.out.A HA.out.B 0 k HC.out.2.1 HKP.out
                have HT1 := Lib.hid t1
                have HT2 := Lib.hid t2
                clear t1 t2
                have r0 := HA.out.b.rg.cell 0
                go_wp2_with fail
                refine (HT1.out).mono ?_
                rintro e w10 ⟨rfl, g10⟩
                have HB := Lib.hid (HA.out.next0 g10)
                have HT3 := Lib.hid (HT2.out _ g10)
                clear r0 g10 HA HT1 HT2
                have r1 := HB.out.b.rg.cell 1
                go_wp2_with fail
                refine (HT3.out).mono ?_
                rintro e w11 ⟨rfl, g11⟩
                have HD := Lib.hid (HB.out.next0 g11)
                clear r1 g11 HB HT3
                go_wp2_with fail
                go_roundw
                case rel => exact ⟨k + 1, HKP.out, by go_num, HD⟩
                case measure => simp [intOf]; omega
              · obtain rfl : k = 8 := by omega
                have il : ¬ (((8 : Nat) : Int) < 8) := by omega
                have hw : IntKind.i64.wrap ((n : Int) + 1) = (n : Int) + 1 := IntWalk.i64_in _ (by have := HN40.out; omega)
                go_wp2_with fail
                go_roundw
                case rel => exact ⟨n + 1, Y2, HNM.out, by go_num, HA⟩
                case measure => have := HNM.out; simp [intOf]; omega
          · obtain rfl : n = M := by omega
            have ik : ¬ ((n : Int) < (n : Int)) := by omega
            go_wp2_with fail
            refine (wakes10 _).mono ?_
            rintro e w6 ⟨rfl, g6⟩
            have HB := Lib.hid (HA.out.next0 g6)
            clear g6 HA
            go_wp2_with fail
            go_ret
            exact ⟨rfl, HB.out.b.gr⟩
theorem walk_HotAlike (x0 x1 x2 x3 x4 : Int) (x5 : Nat) (a1 : Int) (v : Value) {w : World} (hx : CfgB6 x0 x1 x2 x3 x4 x5) (w1 : (Lit.int .u8 a1).wf = true) (s : SlM w v) :
    Calls Tryz.prog 8 #[.agg #[.int .i64 x0, .int .i64 x1, .int .i64 x2, .int .i64 x3, .int .i64 x4, .int .u64 (x5 : Int)], .int .u8 a1, v] w fun e w' => e = .returned (.bool true) ∧ Below w.heap.size w w' := by
  have h1 := bounds_u8 w1
  obtain ⟨b, rfl⟩ : ∃ n : Nat, a1 = (n : Int) := ⟨a1.toNat, by omega⟩
  exact (halike_law x0 x1 x2 x3 x4 x5 b v hx.2.2.2.2.2 (by omega) s).mono fun _ _ q => ⟨q.1, q.2.below0⟩
end Go.Proofs.YtefmbchebobceaaGreat
