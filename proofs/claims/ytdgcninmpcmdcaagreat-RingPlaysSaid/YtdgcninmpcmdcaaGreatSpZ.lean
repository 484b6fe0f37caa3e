/-
  Layer 5: WriteWord.
-/
import Derived.Test.YtdgcninmpcmdcaaGreatMgM
namespace Go.Proofs.YtdgcninmpcmdcaaGreat
open Go.RowKit

section
variable {w : World} {q : BkA} {a : DevA} {p : PlanZ} {B : BkS} {m c : Nat} {D : DevS}
set_option maxRecDepth 100000 in
set_option maxHeartbeats 8000000 in
theorem bww_any (i k : Int) (v : Nat) (h : BkIs w q a p B m) (hd : DevIs w a D) (hb : Bd D c) (hc : c < 700000) (hv : v < 18446744073709551616) (hn : p.a + sizeZ p ≤ (D.n : Int)) (hm : m < 90000) :
    Calls Tryz.prog 47 #[.pointer (some ⟨q.b, 0, none⟩), .int .i64 i, .int .i64 k, .int .u64 (v : Int)] w (WrPost w q a p m c (writeWordS p i k v D B)) := by
  have c0 := h.c0
  have H := Lib.hid (And.intro h (And.intro hd hb))
  by_cases hk : k < 0 ∨ 8 ≤ k
  · have HX := Lib.hid (show writeWordS p i k v D B = (2, D, B) by unfold writeWordS; rw [if_pos hk])
    rcases hk with hk | hk
    all_goals
      clear h hd hb
      go_enter Tryz.func47, Tryz.ntmps47
      go_wp2_with fail
      go_ret
      rw [HX.out]
      exact ⟨rfl, H.out.2.1, H.out.2.2.mono (by omega), H.out.1.moreN _ (by omega), Gr.refl _ _⟩
  · obtain ⟨kN, rfl⟩ : ∃ kN : Nat, k = (kN : Int) := ⟨k.toNat, by omega⟩
    have hk8 : kN < 8 := by omega
    have k0 : (0 : Int) ≤ (kN : Int) := by omega
    have k1 : (kN : Int) < 8 := by omega
    by_cases hi : inP p i
    · have HW := Lib.hid (where_in i h hi)
      obtain ⟨l, hl, hln⟩ := place_in h hn hi
      rw [hl] at HW
      have HI := Lib.hid hi
      by_cases ho : D.off = true
      · have HX := Lib.hid (show writeWordS p i (kN : Int) v D B = (6, D, B) by unfold writeWordS; rw [if_neg hk, if_pos hi, if_pos ho])
        have he : reachE D (isLine D (l : Int)) = 6 := by unfold reachE; rw [if_pos ho]
        have HGt := Lib.hid (fun W (hd : DevIs W a D) => get_err a D (l : Int) W hd (by rw [he]; decide))
        rw [he] at HGt
        clear h hd hb hn hi hl ho he hk
        go_enter Tryz.func47, Tryz.ntmps47
        go_wp2_with fail
        refine HW.out.mono ?_
        rintro e w1 ⟨rfl, g1⟩
        have HG1 := Lib.hid g1
        have c0 := (H.out.1.gr0 g1).c0
        clear g1
        go_wp2_with fail
        refine (HGt.out _ (H.out.2.1.gr0 HG1.out)).mono ?_
        rintro e w2 ⟨rfl, rfl⟩
        go_wp2_with fail
        go_ret
        rw [HX.out]
        exact ⟨rfl, H.out.2.1.gr0 HG1.out, H.out.2.2.mono (by omega), (H.out.1.gr0 HG1.out).moreN _ (by omega), HG1.out.of0⟩
      · have ho : D.off = false := by simpa using ho
        have hF : ∀ j, lineF D l j < 18446744073709551616 := fun j => loadV_lt hd.ok _
        obtain ⟨F, hFe⟩ : ∃ F, F = lineF D l := ⟨_, rfl⟩
        rw [← hFe] at hF
        have HX := Lib.hid (show writeWordS p i (kN : Int) v D B = if (pwE D (l : Int) (kN : Int) v).1 ≠ 0 then ((pwE D (l : Int) (kN : Int) v).1, (pwE D (l : Int) (kN : Int) v).2, B) else ensureS p i (l : Int) (textU (updF F kN v)) (pwE D (l : Int) (kN : Int) v).2 B by
          unfold writeWordS; rw [if_neg hk, if_pos hi, ho, hl, hFe]; simp)
        have HGt := Lib.hid (fun W (hd : DevIs W a D) => get_yes a D l W hd hln ho)
        rw [lineF_text, ← hFe] at HGt
        have HWd := Lib.hid (fun W => words_ok (textU F) W (textU_size F))
        rw [words_textU F hF] at HWd
        have hF2 : ∀ j, updF F kN v j < 18446744073709551616 := fun j => by unfold updF; split; exact hv; exact hF j
        have HTx := Lib.hid (fun W => text_any (updF F kN v 0) (updF F kN v 1) (updF F kN v 2) (updF F kN v 3) (updF F kN v 4) (updF F kN v 5) (updF F kN v 6) (updF F kN v 7) (fun n hn => by
          simp only [List.mem_cons, List.not_mem_nil, or_false] at hn
          rcases hn with rfl | rfl | rfl | rfl | rfl | rfl | rfl | rfl <;> exact hF2 _) W)
        have HPW := Lib.hid (fun W (hW : DevIs W a D) => putword_any a D (l : Int) (kN : Int) v c W hW hb (by omega) hv)
        have HK := Lib.hid hk8
        clear h hd hb hn hi hl ho hk hF hF2 hFe hln
        obtain ⟨T, hT⟩ : ∃ T, T = textU F := ⟨_, rfl⟩
        rw [← hT] at HGt HWd
        clear hT
        go_enter Tryz.func47, Tryz.ntmps47
        go_wp2_with fail
        refine HW.out.mono ?_
        rintro e w1 ⟨rfl, g1⟩
        have HG1 := Lib.hid g1
        have c0 := (H.out.1.gr0 g1).c0
        clear g1
        go_wp2_with fail
        refine (HGt.out _ (H.out.2.1.gr0 HG1.out)).mono ?_
        rintro e w2 ⟨rfl, g2⟩
        have HG2 := Lib.hid (HG1.out.next0 g2)
        clear g2
        go_wp2_with fail
        refine (HWd.out _).mono ?_
        rintro e w3 ⟨rfl, g3⟩
        have HG3 := Lib.hid (HG2.out.next0 g3)
        clear g3
        unfold rowU
        go_upto_region 14 with fail
        have hH : Holds _ w3.heap.size (rowU F) 124 := Holds.new w3 #[.int .u64 (F 0 : Int), .int .u64 (F 1 : Int), .int .u64 (F 2 : Int), .int .u64 (F 3 : Int), .int .u64 (F 4 : Int), .int .u64 (F 5 : Int), .int .u64 (F 6 : Int), .int .u64 (F 7 : Int)] 124
        have gA := (Gr.refl [] w3).alloc (Obj.cells #[.int .u64 (F 0 : Int), .int .u64 (F 1 : Int), .int .u64 (F 2 : Int), .int .u64 (F 3 : Int), .int .u64 (F 4 : Int), .int .u64 (F 5 : Int), .int .u64 (F 6 : Int), .int .u64 (F 7 : Int)] 124)
        have HNB := Lib.hid (show w3.heap.size ∉ a.all ∧ w3.heap.size ∉ q.all from ⟨fun e => by have := (H.out.2.1.gr0 HG3.out).lt _ e; omega, fun e => by have := (H.out.1.gr0 HG3.out).lt _ e; omega⟩)
        have HW4 := Lib.hid (Nat.le_trans HG3.out.size (Nat.le_refl w3.heap.size))
        have HG4 := Lib.hid (HG3.out.trans gA)
        clear gA HG3
        generalize w3.alloc (Obj.cells #[.int .u64 (F 0 : Int), .int .u64 (F 1 : Int), .int .u64 (F 2 : Int), .int .u64 (F 3 : Int), .int .u64 (F 4 : Int), .int .u64 (F 5 : Int), .int .u64 (F 6 : Int), .int .u64 (F 7 : Int)] 124) = w4 at *
        obtain ⟨nb, hnb⟩ : ∃ nb, w3.heap.size = nb := ⟨_, rfl⟩
        rw [hnb] at hH HNB HW4 ⊢
        clear hnb
        have st1 := (hH.cell kN).trans (rowU_get F HK.out)
        have st2 := hH.frozen kN
        have hset := hH.set kN (.int .u64 (v : Int))
        rw [rowU_set F v HK.out] at hset
        have g5 : Gr [] w (w4.setCell ⟨nb, kN, none⟩ (.int .u64 (v : Int))) := HG4.out.setCell (p := ⟨nb, kN, none⟩) (.inr HW4.out) _
        have g45 : Gr [nb] w4 (w4.setCell ⟨nb, kN, none⟩ (.int .u64 (v : Int))) := (Gr.refl [nb] w4).setCell (p := ⟨nb, kN, none⟩) (.inl (by simp)) _
        have H5 := Lib.hid (And.intro (H.out.1.gr0 g5) (And.intro (H.out.2.1.gr0 g5) (And.intro hset g5)))
        clear hH hset g5 g45 HG4
        go_upto_region 15 with fail
        clear st1 st2
        generalize w4.setCell ⟨nb, kN, none⟩ (.int .u64 (v : Int)) = w5 at *
        have c0 := H5.out.1.c0
        go_wp2_with fail
        refine (HPW.out _ H5.out.2.1).mono ?_
        rintro e w6 ⟨rfl, hd6, hb6, g6⟩
        have H6 := Lib.hid (And.intro hd6 (And.intro hb6 (And.intro (H5.out.1.grD g6) (And.intro (H5.out.2.2.1.gr g6 HNB.out.1) (H5.out.2.2.2.of0.trans g6)))))
        clear hd6 hb6 g6 H5
        obtain ⟨e1, he1⟩ : ∃ e1, e1 = (pwE D (l : Int) (kN : Int) v).1 := ⟨_, rfl⟩
        obtain ⟨D1, hD1⟩ : ∃ D1, D1 = (pwE D (l : Int) (kN : Int) v).2 := ⟨_, rfl⟩
        rw [← he1] at HX ⊢
        rw [← hD1] at H6 HX
        clear he1 hD1
        by_cases hz0 : e1 = 0
        · subst hz0
          rw [if_neg (by simp)] at HX
          have y0 := (H6.out.2.2.2.1.cell 0)
          have y1 := (H6.out.2.2.2.1.cell 1)
          have y2 := (H6.out.2.2.2.1.cell 2)
          have y3 := (H6.out.2.2.2.1.cell 3)
          have y4 := (H6.out.2.2.2.1.cell 4)
          have y5 := (H6.out.2.2.2.1.cell 5)
          have y6 := (H6.out.2.2.2.1.cell 6)
          have y7 := (H6.out.2.2.2.1.cell 7)
          rw [rowU_get _ (by omega)] at y0 y1 y2 y3 y4 y5 y6 y7
          have HEn := Lib.hid (fun W (g : Gr [] w6 W) => ensure_any (m := m) i (l : Int) (textU (updF F kN v)) (H6.out.2.2.1.gr0 g) (H6.out.1.gr0 g) H6.out.2.1 (by omega) (by rw [textU_size]; unfold maxLen; omega) HI.out hm)
          rw [← HX.out] at HEn
          go_wp2_with fail
          refine (HTx.out _).mono ?_
          rintro e w7 ⟨rfl, b7⟩
          have g7 := Gr.ofBelow (cs := []) b7
          have HG7 := Lib.hid g7
          clear b7 g7
          go_wp2_with fail
          refine (HEn.out _ HG7.out).mono ?_
          rintro e w8 ⟨rfl, hd8, hb8, hk8', g8⟩
          have H8 := Lib.hid (And.intro hd8 (And.intro hb8 (And.intro hk8' (((H6.out.2.2.2.2.mono (fun b hb => by simp [hb])).next0 HG7.out).trans g8))))
          clear hd8 hb8 hk8' g8
          go_wp2_with fail
          go_ret
          exact ⟨rfl, H8.out.1, H8.out.2.1.mono (by omega), H8.out.2.2.1, H8.out.2.2.2⟩
        · have b1 : (e1 != 0) = true := by simpa using hz0
          rw [if_pos hz0] at HX
          clear hz0
          go_wp2_with fail
          go_ret
          rw [HX.out]
          exact ⟨rfl, H6.out.1, H6.out.2.1.mono (by omega), H6.out.2.2.1.moreN _ (by omega), H6.out.2.2.2.2.mono (fun b hb => by simp [hb])⟩
    · have HW := Lib.hid (where_out i h hi)
      have HX := Lib.hid (show writeWordS p i (kN : Int) v D B = (3, D, B) by unfold writeWordS; rw [if_neg hk, if_neg hi])
      clear h hd hb hi hk
      go_enter Tryz.func47, Tryz.ntmps47
      go_wp2_with fail
      refine HW.out.mono ?_
      rintro e w1 ⟨rfl, hw⟩
      rw [hw]
      go_wp2_with fail
      go_ret
      rw [HX.out]
      exact ⟨rfl, H.out.2.1, H.out.2.2.mono (by omega), H.out.1.moreN _ (by omega), Gr.refl _ _⟩
end
end Go.Proofs.YtdgcninmpcmdcaaGreat
