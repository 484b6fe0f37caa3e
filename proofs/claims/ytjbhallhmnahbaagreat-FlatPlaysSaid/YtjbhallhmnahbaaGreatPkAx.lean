/-
  PkAx: SpZ, SpBe, FpF, Gap.
-/
import Derived.Test.YtjbhallhmnahbaaGreatPkAo
import Derived.Test.YtjbhallhmnahbaaGreatPkAw
import Derived.Test.YtjbhallhmnahbaaGreatPkAn
import Derived.Test.YtjbhallhmnahbaaGreatPkAa
import Derived.Test.YtjbhallhmnahbaaGreatPkAv
import Derived.Test.YtjbhallhmnahbaaGreatPkAg
import Derived.Test.YtjbhallhmnahbaaGreatRows
import Derived.WalkKit
import Derived.Handy
import Derived.Lib.Hide
import Derived.Deep.QuietTactic
import Derived.BigQuiet

set_option linter.unusedVariables false

/-
  Layer 5: WriteWord.
-/
namespace Go.Proofs.YtjbhallhmnahbaaGreat
open Go.RowKit

section
variable {w : World} {q : BkA} {a : DevA} {p : PlanZ} {B : BkS} {m c : Nat} {D : DevS}
set_option maxRecDepth 100000 in
set_option maxHeartbeats 8000000 in
theorem bww_any (i k : Int) (v : Nat) (h : BkIs w q a p B m) (hd : DevIs w a D) (hb : Bd D c) (hc : c < 700000) (hv : v < 18446744073709551616) (hn : p.a + sizeZ p ≤ (D.n : Int)) (hm : m < 90000) :
    Calls Tryz.prog 93 #[.pointer (some ⟨q.b, 0, none⟩), .int .i64 i, .int .i64 k, .int .u64 (v : Int)] w (WrPost w q a p m c (writeWordS p i k v D B)) := by
  have c0 := h.c0
  have H := Lib.hid (And.intro h (And.intro hd hb))
  by_cases hk : k < 0 ∨ 8 ≤ k
  · have HX := Lib.hid (show writeWordS p i k v D B = (2, D, B) by unfold writeWordS; rw [if_pos hk])
    rcases hk with hk | hk
    all_goals
      clear h hd hb
      go_enter Tryz.func93, Tryz.ntmps93
      go_wp2_with fail
      go_ret
      rw [HX.out]
      exact ⟨rfl, H.out.2.1, H.out.2.2.mono (by omega), H.out.1.moreN _ (by omega), Gr.refl _ _⟩
  · obtain ⟨kN, rfl⟩ : ∃ kN : Nat, k = (kN : Int) := ⟨k.toNat, by omega⟩
    have hk8 : kN < 8 := by omega
    have k0 : (0 : Int) ≤ (kN : Int) := by omega
    have k1 : (kN : Int) < 8 := by omega
    by_cases hi : inP p i
    · have HW := Lib.hid (where_in i h hi)
      obtain ⟨l, hl, hln⟩ := place_in h hn hi
      rw [hl] at HW
      have HI := Lib.hid hi
      by_cases ho : D.off = true
      · have HX := Lib.hid (show writeWordS p i (kN : Int) v D B = (6, D, B) by unfold writeWordS; rw [if_neg hk, if_pos hi, if_pos ho])
        have he : reachE D (isLine D (l : Int)) = 6 := by unfold reachE; rw [if_pos ho]
        have HGt := Lib.hid (fun W (hd : DevIs W a D) => get_err a D (l : Int) W hd (by rw [he]; decide))
        rw [he] at HGt
        clear h hd hb hn hi hl ho he hk
        go_enter Tryz.func93, Tryz.ntmps93
        go_wp2_with fail
        refine HW.out.mono ?_
        rintro e w1 ⟨rfl, g1⟩
        have HG1 := Lib.hid g1
        have c0 := (H.out.1.gr0 g1).c0
        clear g1
        go_wp2_with fail
        refine (HGt.out _ (H.out.2.1.gr0 HG1.out)).mono ?_
        rintro e w2 ⟨rfl, rfl⟩
        go_wp2_with fail
        go_ret
        rw [HX.out]
        exact ⟨rfl, H.out.2.1.gr0 HG1.out, H.out.2.2.mono (by omega), (H.out.1.gr0 HG1.out).moreN _ (by omega), HG1.out.of0⟩
      · have ho : D.off = false := by simpa using ho
        have hF : ∀ j, lineF D l j < 18446744073709551616 := fun j => loadV_lt hd.ok _
        obtain ⟨F, hFe⟩ : ∃ F, F = lineF D l := ⟨_, rfl⟩
        rw [← hFe] at hF
        have HX := Lib.hid (show writeWordS p i (kN : Int) v D B = if (pwE D (l : Int) (kN : Int) v).1 ≠ 0 then ((pwE D (l : Int) (kN : Int) v).1, (pwE D (l : Int) (kN : Int) v).2, B) else ensureS p i (l : Int) (textU (updF F kN v)) (pwE D (l : Int) (kN : Int) v).2 B by
          unfold writeWordS; rw [if_neg hk, if_pos hi, ho, hl, hFe]; simp)
        have HGt := Lib.hid (fun W (hd : DevIs W a D) => get_yes a D l W hd hln ho)
        rw [lineF_text, ← hFe] at HGt
        have HWd := Lib.hid (fun W => words_ok (textU F) W (textU_size F))
        rw [words_textU F hF] at HWd
        have hF2 : ∀ j, updF F kN v j < 18446744073709551616 := fun j => by unfold updF; split; exact hv; exact hF j
        have HTx := Lib.hid (fun W => text_any (updF F kN v 0) (updF F kN v 1) (updF F kN v 2) (updF F kN v 3) (updF F kN v 4) (updF F kN v 5) (updF F kN v 6) (updF F kN v 7) (fun n hn => by
          simp only [List.mem_cons, List.not_mem_nil, or_false] at hn
          rcases hn with rfl | rfl | rfl | rfl | rfl | rfl | rfl | rfl <;> exact hF2 _) W)
        have HPW := Lib.hid (fun W (hW : DevIs W a D) => putword_any a D (l : Int) (kN : Int) v c W hW hb (by omega) hv)
        have HK := Lib.hid hk8
        clear h hd hb hn hi hl ho hk hF hF2 hFe hln
        obtain ⟨T, hT⟩ : ∃ T, T = textU F := ⟨_, rfl⟩
        rw [← hT] at HGt HWd
        clear hT
        go_enter Tryz.func93, Tryz.ntmps93
        go_wp2_with fail
        refine HW.out.mono ?_
        rintro e w1 ⟨rfl, g1⟩
        have HG1 := Lib.hid g1
        have c0 := (H.out.1.gr0 g1).c0
        clear g1
        go_wp2_with fail
        refine (HGt.out _ (H.out.2.1.gr0 HG1.out)).mono ?_
        rintro e w2 ⟨rfl, g2⟩
        have HG2 := Lib.hid (HG1.out.next0 g2)
        clear g2
        go_wp2_with fail
        refine (HWd.out _).mono ?_
        rintro e w3 ⟨rfl, g3⟩
        have HG3 := Lib.hid (HG2.out.next0 g3)
        clear g3
        unfold rowU
        go_upto_region 14 with fail
        have hH : Holds _ w3.heap.size (rowU F) 105 := Holds.new w3 #[.int .u64 (F 0 : Int), .int .u64 (F 1 : Int), .int .u64 (F 2 : Int), .int .u64 (F 3 : Int), .int .u64 (F 4 : Int), .int .u64 (F 5 : Int), .int .u64 (F 6 : Int), .int .u64 (F 7 : Int)] 105
        have gA := (Gr.refl [] w3).alloc (Obj.cells #[.int .u64 (F 0 : Int), .int .u64 (F 1 : Int), .int .u64 (F 2 : Int), .int .u64 (F 3 : Int), .int .u64 (F 4 : Int), .int .u64 (F 5 : Int), .int .u64 (F 6 : Int), .int .u64 (F 7 : Int)] 105)
        have HNB := Lib.hid (show w3.heap.size ∉ a.all ∧ w3.heap.size ∉ q.all from ⟨fun e => by have := (H.out.2.1.gr0 HG3.out).lt _ e; omega, fun e => by have := (H.out.1.gr0 HG3.out).lt _ e; omega⟩)
        have HW4 := Lib.hid (Nat.le_trans HG3.out.size (Nat.le_refl w3.heap.size))
        have HG4 := Lib.hid (HG3.out.trans gA)
        clear gA HG3
        generalize w3.alloc (Obj.cells #[.int .u64 (F 0 : Int), .int .u64 (F 1 : Int), .int .u64 (F 2 : Int), .int .u64 (F 3 : Int), .int .u64 (F 4 : Int), .int .u64 (F 5 : Int), .int .u64 (F 6 : Int), .int .u64 (F 7 : Int)] 105) = w4 at *
        obtain ⟨nb, hnb⟩ : ∃ nb, w3.heap.size = nb := ⟨_, rfl⟩
        rw [hnb] at hH HNB HW4 ⊢
        clear hnb
        have st1 := (hH.cell kN).trans (rowU_get F HK.out)
        have st2 := hH.frozen kN
        have hset := hH.set kN (.int .u64 (v : Int))
        rw [rowU_set F v HK.out] at hset
        have g5 : Gr [] w (w4.setCell ⟨nb, kN, none⟩ (.int .u64 (v : Int))) := HG4.out.setCell (p := ⟨nb, kN, none⟩) (.inr HW4.out) _
        have g45 : Gr [nb] w4 (w4.setCell ⟨nb, kN, none⟩ (.int .u64 (v : Int))) := (Gr.refl [nb] w4).setCell (p := ⟨nb, kN, none⟩) (.inl (by simp)) _
        have H5 := Lib.hid (And.intro (H.out.1.gr0 g5) (And.intro (H.out.2.1.gr0 g5) (And.intro hset g5)))
        clear hH hset g5 g45 HG4
        go_upto_region 15 with fail
        clear st1 st2
        generalize w4.setCell ⟨nb, kN, none⟩ (.int .u64 (v : Int)) = w5 at *
        have c0 := H5.out.1.c0
        go_wp2_with fail
        refine (HPW.out _ H5.out.2.1).mono ?_
        rintro e w6 ⟨rfl, hd6, hb6, g6⟩
        have H6 := Lib.hid (And.intro hd6 (And.intro hb6 (And.intro (H5.out.1.grD g6) (And.intro (H5.out.2.2.1.gr g6 HNB.out.1) (H5.out.2.2.2.of0.trans g6)))))
        clear hd6 hb6 g6 H5
        obtain ⟨e1, he1⟩ : ∃ e1, e1 = (pwE D (l : Int) (kN : Int) v).1 := ⟨_, rfl⟩
        obtain ⟨D1, hD1⟩ : ∃ D1, D1 = (pwE D (l : Int) (kN : Int) v).2 := ⟨_, rfl⟩
        rw [← he1] at HX ⊢
        rw [← hD1] at H6 HX
        clear he1 hD1
        by_cases hz0 : e1 = 0
        · subst hz0
          rw [if_neg (by simp)] at HX
          have y0 := (H6.out.2.2.2.1.cell 0)
          have y1 := (H6.out.2.2.2.1.cell 1)
          have y2 := (H6.out.2.2.2.1.cell 2)
          have y3 := (H6.out.2.2.2.1.cell 3)
          have y4 := (H6.out.2.2.2.1.cell 4)
          have y5 := (H6.out.2.2.2.1.cell 5)
          have y6 := (H6.out.2.2.2.1.cell 6)
          have y7 := (H6.out.2.2.2.1.cell 7)
          rw [rowU_get _ (by omega)] at y0 y1 y2 y3 y4 y5 y6 y7
          have HEn := Lib.hid (fun W (g : Gr [] w6 W) => ensure_any (m := m) i (l : Int) (textU (updF F kN v)) (H6.out.2.2.1.gr0 g) (H6.out.1.gr0 g) H6.out.2.1 (by omega) (by rw [textU_size]; unfold maxLen; omega) HI.out hm)
          rw [← HX.out] at HEn
          go_wp2_with fail
          refine (HTx.out _).mono ?_
          rintro e w7 ⟨rfl, b7⟩
          have g7 := Gr.ofBelow (cs := []) b7
          have HG7 := Lib.hid g7
          clear b7 g7
          go_wp2_with fail
          refine (HEn.out _ HG7.out).mono ?_
          rintro e w8 ⟨rfl, hd8, hb8, hk8', g8⟩
          have H8 := Lib.hid (And.intro hd8 (And.intro hb8 (And.intro hk8' (((H6.out.2.2.2.2.mono (fun b hb => by simp [hb])).next0 HG7.out).trans g8))))
          clear hd8 hb8 hk8' g8
          go_wp2_with fail
          go_ret
          exact ⟨rfl, H8.out.1, H8.out.2.1.mono (by omega), H8.out.2.2.1, H8.out.2.2.2⟩
        · have b1 : (e1 != 0) = true := by simpa using hz0
          rw [if_pos hz0] at HX
          clear hz0
          go_wp2_with fail
          go_ret
          rw [HX.out]
          exact ⟨rfl, H6.out.1, H6.out.2.1.mono (by omega), H6.out.2.2.1.moreN _ (by omega), H6.out.2.2.2.2.mono (fun b hb => by simp [hb])⟩
    · have HW := Lib.hid (where_out i h hi)
      have HX := Lib.hid (show writeWordS p i (kN : Int) v D B = (3, D, B) by unfold writeWordS; rw [if_neg hk, if_neg hi])
      clear h hd hb hi hk
      go_enter Tryz.func93, Tryz.ntmps93
      go_wp2_with fail
      refine HW.out.mono ?_
      rintro e w1 ⟨rfl, hw⟩
      rw [hw]
      go_wp2_with fail
      go_ret
      rw [HX.out]
      exact ⟨rfl, H.out.2.1, H.out.2.2.mono (by omega), H.out.1.moreN _ (by omega), Gr.refl _ _⟩
end
end Go.Proofs.YtjbhallhmnahbaaGreat

/-
  Layer 5: the document's WriteWord.
-/
namespace Go.Proofs.YtjbhallhmnahbaaGreat
open Go.RowKit
set_option linter.unusedVariables false

def wordK (A : ByteArray) (k v : Nat) : ByteArray := A.extract 0 (8 * k) ++ ⟨(putL v 8).toArray⟩ ++ A.extract (8 * k + 8) 64
theorem wordK_data {A : ByteArray} (k v : Nat) : (wordK A k v).data.toList = (A.data.toList.take (8 * k) ++ putL v 8) ++ (A.data.toList.drop (8 * k + 8)).take (64 - (8 * k + 8)) := by
  unfold wordK
  rw [ByteArray.data_append, Array.toList_append, ByteArray.data_append, Array.toList_append]
  simp only [ByteArray.data_extract, Array.toList_extract, List.extract_eq_take_drop, List.drop_zero]
  simp
theorem wordK_size {A : ByteArray} (hA : A.size = 64) (k v : Nat) (hk : k < 8) : (wordK A k v).size = 64 := by
  show (wordK A k v).data.toList.length = 64
  have a : A.data.toList.length = 64 := hA
  rw [wordK_data, List.length_append, List.length_append, List.length_take, List.length_take, List.length_drop, a, putL_length]
  omega
theorem wordK_word {A : ByteArray} (hA : A.size = 64) (k v : Nat) (hk : k < 8) (hv : v < 18446744073709551616) (j : Nat) (hj : j < 8) : wdL (wordK A k v).data.toList j = updF (wdL A.data.toList) k v j := by
  have a : A.data.toList.length = 64 := hA
  have t8 : (A.data.toList.take (8 * k)).length = 8 * k := by rw [List.length_take, a]; omega
  have t16 : (A.data.toList.take (8 * k) ++ putL v 8).length = 8 * k + 8 := by rw [List.length_append, t8, putL_length]
  unfold wdL updF
  rw [wordK_data]
  by_cases c1 : j = k
  · subst c1
    rw [if_pos rfl, List.append_assoc, List.drop_append, List.drop_eq_nil_of_le (by omega), List.nil_append, t8, Nat.sub_self, List.drop_zero, List.take_append_of_le_length (by rw [putL_length]; omega), List.take_of_length_le (by rw [putL_length]; omega), getL_putL]
    exact Nat.mod_eq_of_lt (by have : (256 : Nat) ^ 8 = 18446744073709551616 := by decide
                               omega)
  · rw [if_neg c1]
    show _ = getL (List.take 8 (List.drop (8 * j) A.data.toList))
    by_cases c0 : j < k
    · rw [List.append_assoc, List.drop_append, t8, show 8 * j - 8 * k = 0 by omega, List.drop_zero, List.take_append_of_le_length (by rw [List.length_drop, t8]; omega), List.drop_take, List.take_take, Nat.min_eq_left (by omega)]
    · rw [List.drop_append, List.drop_eq_nil_of_le (by omega), List.nil_append, t16, List.drop_take, List.drop_drop, List.take_take]
      rw [show 8 * k + 8 + (8 * j - (8 * k + 8)) = 8 * j by omega, Nat.min_eq_left (by omega)]
section
variable {p : PlanZ} {D : DevS} {B : BkS} {i : Int}
theorem pw_zero {l k v : Nat} {D1 : DevS} (h : TI p (bare D) B) (hd : Live D) (hmb : MB D) (hok : okZ p = true) (hl1 : p.a + tabZ p ≤ (l : Int)) (hln : l < D.n) (hk : k < 8) (hv : v < 18446744073709551616) (he : pwE D (l : Int) (k : Int) v = (0, D1)) : Live D1 ∧ TI p (bare D1) B ∧ MB D1 ∧ D1.n = D.n := by
  rcases putword_live (l := l) (k := k) (v := v) hd hln hk with ⟨E2, e2, s2⟩ | ⟨E, e2, s2⟩
  · rw [he] at e2
    have : D1 = E2 := (Prod.mk.inj e2).2
    subst this
    exact ⟨s2.live, h.keep (bare_calm D1) (by show D1.n = _; rw [s2.n]; rfl) (fun x hx => by show D1.med x = D.med x; rw [s2.med, if_neg (by omega)]) hok (fun l q1 q2 => by show D1.bad l = _; rw [s2.bad]; exact h.tb l q1 q2), s2.mb hmb (fun _ => hv), s2.n⟩
  · rw [he] at e2
    have : (0 : Int) = 6 := (Prod.mk.inj e2).1
    omega
theorem wordK_text {l k v : Nat} (hd : Live D) (hmb : MB D) (hk : k < 8) (hv : v < 18446744073709551616) : wordK (⟨(getT D l).toArray⟩ : ByteArray) k v = textU (updF (lineF D l) k v) := by
  have hs : (⟨(getT D l).toArray⟩ : ByteArray).size = 64 := by rw [lineF_text]; exact textU_size _
  have hF : ∀ j, lineF D l j < 18446744073709551616 := fun j => by rw [lineF_live hd]; exact hmb _
  have hF2 : ∀ j, updF (lineF D l) k v j < 18446744073709551616 := fun j => by
    unfold updF; split
    · exact hv
    · exact hF j
  refine bytes_eq (wordK_size hs k v hk) (textU_size _) fun j hj => ?_
  rw [wordK_word hs k v hk hv j hj, wd_textU hF2 j hj]
  unfold updF
  split
  · rfl
  · rw [lineF_text, wd_textU hF j hj]
end
section
variable {w : World} {r : RefA} {D : DevS} {p : PlanZ} {B : BkS} {c : Nat}
set_option maxRecDepth 100000 in
set_option maxHeartbeats 8000000 in
theorem rww_any (i k : Int) (v : Nat) (h : RefIs w r D) (hd : Live D) (hT : TI p (bare D) B) (hmb : MB D) (hb : Fu D c) (hc : c < 600000) (hok : okZ p = true) (hv : v < 18446744073709551616) :
    Calls Tryz.prog 103 #[.pointer (some ⟨r.rd, 0, none⟩), planV p, .int .i64 i, .int .i64 k, .int .u64 (v : Int)] w (RWPost w r c (writeWordS p i k v D B)) := by
  obtain ⟨c0, c1, c2⟩ := rplan_cells p w
  have HG := Lib.hid ((Gr.refl [] w).alloc (Obj.cells #[.int .i64 p.a, .int .i64 p.l, .int .i64 p.s] 138))
  obtain ⟨w1, hw1⟩ : ∃ w1, w1 = w.alloc (Obj.cells #[.int .i64 p.a, .int .i64 p.l, .int .i64 p.s] 138) := ⟨_, rfl⟩
  obtain ⟨pb, hpb⟩ : ∃ pb, pb = w.heap.size := ⟨_, rfl⟩
  have HNP := Lib.hid (show pb ∉ r.all from fun q => by have := h.lt _ q; omega)
  rw [← hpb, ← hw1] at c0 c1 c2
  rw [← hw1] at HG
  by_cases hk : 0 ≤ k ∧ k < 8
  · by_cases hi : inP p i
    · obtain ⟨kN, rfl⟩ : ∃ kN : Nat, k = (kN : Int) := ⟨k.toNat, by omega⟩
      have hk8 : kN < 8 := by omega
      obtain ⟨l0, hp, hln, hl1, hl2⟩ := hT.place hok hi
      obtain ⟨l, hM, hlu, hwh⟩ := hT.marks hd hok hmb
      obtain ⟨h1, h2, h3, h4, h5, h6⟩ := (okZ_iff p).1 hok
      have hfit : p.a + sizeZ p ≤ (D.n : Int) := hT.fits
      have hln2 : l0 < D.n := hln
      have HEn := Lib.hid (show Calls Tryz.prog 135 #[.pointer (some ⟨r.rd, 0, none⟩), .agg #[.int .i64 p.a, .int .i64 p.l, .int .i64 p.s]] w1 _ from rentries_any (h.gr0 HG.out) hd.off hok hfit hM)
      have HWh := Lib.hid (fun (W : World) (po : Option Addr) (pc : Nat) (hr : RowAt W po l) => show Calls Tryz.prog 136 #[.agg #[.int .i64 p.a, .int .i64 p.l, .int .i64 p.s], .slice po l.length pc, .int .i64 i] W _ from rwhere_any i hok hi hM.len (fun j m e => (hM.each j m e).2) hr)
      rw [hwh i hi, hp] at HWh
      obtain ⟨s, hsT⟩ : ∃ s, s = textU (updF (lineF D l0) kN v) := ⟨_, rfl⟩
      have hs : s.size = 64 := by rw [hsT]; exact textU_size _
      obtain ⟨A, hA⟩ : ∃ A, A = (⟨(getT D l0).toArray⟩ : ByteArray) := ⟨_, rfl⟩
      have hA64 : A.size = 64 := by rw [hA, lineF_text]; exact textU_size _
      have HWK := Lib.hid (show wordK A kN v = s by rw [hA, hsT]; exact wordK_text hd hmb hk8 hv)
      have HGt := Lib.hid (fun W (q : RefIs W r D) => rget4_yes r D l0 W q hln2 hd.off (fun x => by unfold loadV; rw [hd.buf]; exact hmb x))
      rw [← hA] at HGt
      have HPu := Lib.hid (fun W => show Calls Tryz.prog 104 #[.int .u64 (v : Int), .int .i64 8] W fun e w' => e = .returned (.string ⟨(putL v 8).toArray⟩) ∧ Below W.heap.size W w' from rput_any v 8 W hv (by omega) (by omega))
      have HP := Lib.hid (fun W (q : RefIs W r D) => rputword_any r D (l0 : Int) (kN : Int) v c W q hb (by omega))
      have HFU := Lib.hid (pw_fu hb (l0 : Int) (kN : Int) v)
      have hwr : writeWordS p i (kN : Int) v D B = if (pwE D (l0 : Int) (kN : Int) v).1 ≠ 0 then ((pwE D (l0 : Int) (kN : Int) v).1, (pwE D (l0 : Int) (kN : Int) v).2, B) else ensureS p i (l0 : Int) s (pwE D (l0 : Int) (kN : Int) v).2 B := by
        unfold writeWordS
        rw [if_neg (by omega), if_pos hi, hd.off, hp, hsT, Int.toNat_natCast, Int.toNat_natCast]
        simp
      have HD := Lib.hid h
      have HPZ := Lib.hid (fun D1 => pw_zero (D1 := D1) hT hd hmb hok hl1 hln2 hk8 hv)
      obtain ⟨i0, i9⟩ : 0 ≤ i ∧ i < p.l := hi
      have ik1 : ¬ (i < 0) := by omega
      have ik3 : ¬ ((kN : Int) < 0) := by omega
      have ik4 : ¬ ((7 : Int) < (kN : Int)) := by omega
      obtain ⟨x8, hx8⟩ : ∃ x8 : Nat, x8 = 8 * kN := ⟨_, rfl⟩
      have hqz : 8 * (kN : Int) = (x8 : Int) := by omega
      have hq0 : (0 : Int) ≤ (x8 : Int) := by omega
      have hq1 : (x8 : Int) ≤ 64 := by omega
      have hq2 : (x8 : Int) + 8 ≤ 64 := by omega
      have hq3 : (0 : Int) ≤ (x8 : Int) + 8 := by omega
      have hn8 : ((x8 : Int) + 8).toNat = x8 + 8 := by omega
      have wr1 : IntKind.i64.wrap (x8 : Int) = (x8 : Int) := IntWalk.i64_in _ (by omega)
      have wr2 : IntKind.i64.wrap ((x8 : Int) + 8) = (x8 : Int) + 8 := IntWalk.i64_in _ (by omega)
      have HX8 := Lib.hid hx8
      clear hx8
      have ik2 : ¬ (p.l ≤ i) := by omega
      have HK := Lib.hid (And.intro hok (And.intro (show inP p i from ⟨i0, i9⟩) (And.intro hs (And.intro hc hln2))))
      obtain ⟨e1, D1, hx⟩ : ∃ e1 D1, pwE D (l0 : Int) (kN : Int) v = (e1, D1) := ⟨_, _, rfl⟩
      rw [hx] at HP HFU hwr
      have HX := Lib.hid hx
      have HWR := Lib.hid hwr
      clear h hd hT hmb hb hok hp hln hl1 hl2 hM hlu hwh h1 h2 h3 h4 h5 h6 hfit hln2 hwr hx i0 i9 hc hsT hA hk hv
      obtain ⟨N, hN⟩ : ∃ N, N = l.length := ⟨_, rfl⟩
      rw [← hN] at HEn HWh
      clear hN
      unfold planV
      go_enter Tryz.func103, Tryz.ntmps103
      go_wp2_with fail
      rw [← hw1]
      rw [← hpb]
      clear hw1 hpb hs
      refine HEn.out.mono ?_
      rintro e w2 ⟨po, pc, rfl, hrow, g2⟩
      have HRow := Lib.hid hrow
      replace c0 := (g2.cell0 (World.block_lt_of_cell? w1 _ c0)).trans c0
      replace c1 := (g2.cell0 (World.block_lt_of_cell? w1 _ c1)).trans c1
      replace c2 := (g2.cell0 (World.block_lt_of_cell? w1 _ c2)).trans c2
      have HG2 := Lib.hid (HG.out.trans g2)
      clear hrow g2 HG HEn
      go_wp2_with fail
      refine (HWh.out _ po pc HRow.out).mono ?_
      rintro e w3 ⟨rfl, g3⟩
      replace c0 := (g3.cell0 (World.block_lt_of_cell? w2 _ c0)).trans c0
      replace c1 := (g3.cell0 (World.block_lt_of_cell? w2 _ c1)).trans c1
      replace c2 := (g3.cell0 (World.block_lt_of_cell? w2 _ c2)).trans c2
      have HG3 := Lib.hid (HG2.out.trans g3)
      clear g3 HG2 HRow HWh
      go_wp2_with fail
      refine (HGt.out _ (HD.out.gr0 HG3.out)).mono ?_
      rintro e w3b ⟨rfl, g3⟩
      replace c0 := (g3.cell0 (World.block_lt_of_cell? w3 _ c0)).trans c0
      replace c1 := (g3.cell0 (World.block_lt_of_cell? w3 _ c1)).trans c1
      replace c2 := (g3.cell0 (World.block_lt_of_cell? w3 _ c2)).trans c2
      have HG3 := Lib.hid (HG3.out.trans g3)
      clear g3 HGt
      go_wp2_with fail
      refine (HPu.out _).mono ?_
      rintro e w3c ⟨rfl, b3⟩
      have g3 := Gr.ofBelow (cs := []) b3
      replace c0 := (g3.cell0 (World.block_lt_of_cell? w3b _ c0)).trans c0
      replace c1 := (g3.cell0 (World.block_lt_of_cell? w3b _ c1)).trans c1
      replace c2 := (g3.cell0 (World.block_lt_of_cell? w3b _ c2)).trans c2
      have HG3 := Lib.hid (HG3.out.trans g3)
      clear g3 b3 HPu
      go_wp2_with fail
      obtain ⟨bS, hbS⟩ : ∃ bS : ByteArray, bS = ⟨(putL v 8).toArray⟩ := ⟨_, rfl⟩
      have hb8 : bS.size = 8 := by rw [hbS]; show (putL v 8).toArray.size = 8; rw [List.size_toArray, putL_length]
      obtain ⟨L0, hL0⟩ : ∃ L0, A.extract 0 x8 = L0 := ⟨_, rfl⟩
      have hL8 : L0.size = x8 := by rw [← hL0, ByteArray.size_extract]; omega
      obtain ⟨M0, hM0⟩ : ∃ M0, L0 ++ bS = M0 := ⟨_, rfl⟩
      have hM8 : M0.size = x8 + 8 := by rw [← hM0, ByteArray.size_append]; omega
      obtain ⟨R0, hR0⟩ : ∃ R0, A.extract (x8 + 8) 64 = R0 := ⟨_, rfl⟩
      have hR8 : R0.size = 64 - (x8 + 8) := by rw [← hR0, ByteArray.size_extract]; omega
      have HW0 := Lib.hid (show M0 ++ R0 = s by
        rw [← HWK.out, ← hM0, ← hL0, ← hR0, hbS, HX8.out]
        rfl)
      rw [← hbS]
      clear hbS
      have hx64 : x8 ≤ 56 := by omega
      go_quiet (fail)
      rw [HW0.out]
      clear hb8 hL0 hL8 hM0 hM8 hR0 hR8 hx64 hqz hq0 hq1 hq2 hq3 hn8 wr1 wr2 hA64
      have g3 : Gr [] w3c (w3c.drewN nq) := (Gr.refl [] w3c).drewN nq
      replace c0 := (g3.cell0 (World.block_lt_of_cell? w3c _ c0)).trans c0
      replace c1 := (g3.cell0 (World.block_lt_of_cell? w3c _ c1)).trans c1
      replace c2 := (g3.cell0 (World.block_lt_of_cell? w3c _ c2)).trans c2
      have HG3 := Lib.hid (HG3.out.trans g3)
      clear g3
      generalize w3c.drewN nq = w3 at *
      go_wp2_with fail
      refine (HP.out _ (HD.out.gr0 HG3.out)).mono ?_
      rintro e w4 ⟨rfl, d4, g4⟩
      replace c0 := (cell_gr g4 (World.block_lt_of_cell? w3 _ c0) HNP.out).trans c0
      replace c1 := (cell_gr g4 (World.block_lt_of_cell? w3 _ c1) HNP.out).trans c1
      replace c2 := (cell_gr g4 (World.block_lt_of_cell? w3 _ c2) HNP.out).trans c2
      have H4 := Lib.hid (And.intro d4 ((HG3.out.of0).trans g4))
      clear d4 g4 HP
      by_cases he : e1 = 0
      · subst he
        obtain ⟨z1, z2, z3, z4⟩ := HPZ.out D1 HX.out
        have hq := took_eq z3 (l := l0) (by rw [z4]; exact HK.out.2.2.2.2) HK.out.2.2.1
        obtain ⟨G, hG⟩ : ∃ G, G = medS D1 l0 := ⟨_, rfl⟩
        rw [← hG] at hq
        have HMd := Lib.hid (fun W (q : RefIs W r D1) => show Calls Tryz.prog 53 #[.pointer (some ⟨r.rd, 0, none⟩), .int .i64 (l0 : Int)] W fun e w' => e = .returned (.string G) ∧ Gr [] W w' by rw [hG]; exact rmedia4_any r D1 l0 W q (by rw [z4]; exact HK.out.2.2.2.2) z3)
        have HRt := Lib.hid (fun W (q : RefIs W r D1) => show Calls Tryz.prog 154 #[.pointer (some ⟨r.rd, 0, none⟩), .agg #[.int .i64 p.a, .int .i64 p.l, .int .i64 p.s], .int .i64 i, .string s] W _ from rretire_any i s q z1 z2 z3 HFU.out (by have := HK.out.2.2.2.1; omega) HK.out.1 HK.out.2.1 HK.out.2.2.1)
        have hq2 := hq.symm
        have hwr : writeWordS p i (kN : Int) v D B = ensureS p i (l0 : Int) s D1 B := by rw [HWR.out]; simp
        clear hq hG z1 z2 z3 z4
        cases htk : tookB D1 (l0 : Int) s with
        | true =>
          rw [htk] at hq2
          have HWR2 := Lib.hid (show writeWordS p i (kN : Int) v D B = (0, D1, B) by rw [hwr]; unfold ensureS; rw [htk]; rfl)
          clear htk hwr
          go_wp2_with fail
          refine (HMd.out _ H4.out.1).mono ?_
          rintro e w5 ⟨rfl, g5⟩
          have H5 := Lib.hid (And.intro (H4.out.1.gr0 g5) (H4.out.2.next0 g5))
          clear g5
          go_wp2_with fail
          go_ret
          rw [HWR2.out]
          exact ⟨rfl, H5.out.1, HFU.out.mono (by omega), H5.out.2⟩
        | false =>
          rw [htk] at hq2
          obtain ⟨X, hX⟩ : ∃ X, X = ensS p i s (p.s - (B.used : Int)).toNat D1 B := ⟨_, rfl⟩
          rw [← hX] at HRt
          have HWR2 := Lib.hid (show writeWordS p i (kN : Int) v D B = X by rw [hwr, hX]; unfold ensureS; rw [htk]; rfl)
          clear hX
          clear htk hwr
          go_wp2_with fail
          refine (HMd.out _ H4.out.1).mono ?_
          rintro e w5 ⟨rfl, g5⟩
          replace c0 := (g5.cell0 (World.block_lt_of_cell? w4 _ c0)).trans c0
          replace c1 := (g5.cell0 (World.block_lt_of_cell? w4 _ c1)).trans c1
          replace c2 := (g5.cell0 (World.block_lt_of_cell? w4 _ c2)).trans c2
          have H5 := Lib.hid (And.intro (H4.out.1.gr0 g5) (H4.out.2.next0 g5))
          clear g5
          go_wp2_with fail
          refine (HRt.out _ H5.out.1).mono ?_
          rintro e w6 ⟨rfl, d6, f6, g6⟩
          have H6 := Lib.hid (And.intro d6 (And.intro f6 (H5.out.2.trans g6)))
          clear d6 f6 g6
          go_wp2_with fail
          go_ret
          rw [HWR2.out]
          exact ⟨rfl, H6.out.1, H6.out.2.1.mono (by omega), H6.out.2.2⟩
      · have b1 : (e1 != 0) = true := by simpa using he
        have HWR2 := Lib.hid (show writeWordS p i (kN : Int) v D B = (e1, D1, B) by rw [HWR.out, if_pos he])
        clear he
        go_wp2_with fail
        go_ret
        rw [HWR2.out]
        exact ⟨rfl, H4.out.1, HFU.out.mono (by omega), H4.out.2⟩
    · have HX := Lib.hid (show writeWordS p i k v D B = (3, D, B) by unfold writeWordS; rw [if_neg (by omega), if_neg hi])
      have HD := Lib.hid (And.intro h hb)
      have hor : i < 0 ∨ ¬ (i < 0) ∧ p.l ≤ i := by unfold inP at hi; omega
      have ik3 : ¬ (k < 0) := by omega
      have ik4 : ¬ (7 < k) := by omega
      clear h hd hT hmb hb hok hi hc hk hv
      unfold planV
      rcases hor with hor | ⟨hor, hor2⟩
      all_goals
        go_enter Tryz.func103, Tryz.ntmps103
        go_wp2_with fail
        go_ret
        rw [HX.out]
        rw [← hw1]
        exact ⟨rfl, HD.out.1.gr0 HG.out, HD.out.2.mono (by omega), HG.out.of0⟩
  · have HX := Lib.hid (show writeWordS p i k v D B = (2, D, B) by unfold writeWordS; rw [if_pos (by omega)])
    have HD := Lib.hid (And.intro h hb)
    have hor : k < 0 ∨ ¬ (k < 0) ∧ 7 < k := by omega
    clear h hd hT hmb hb hok hc hk hv
    unfold planV
    rcases hor with hor | ⟨hor, hor2⟩
    all_goals
      go_enter Tryz.func103, Tryz.ntmps103
      go_wp2_with fail
      go_ret
      rw [HX.out]
      rw [← hw1]
      exact ⟨rfl, HD.out.1.gr0 HG.out, HD.out.2.mono (by omega), HG.out.of0⟩
end
end Go.Proofs.YtjbhallhmnahbaaGreat

/-
  FlatPlays: the two media are the same.
-/
namespace Go.Proofs.YtjbhallhmnahbaaGreat
open Go.RowKit
set_option linter.unusedVariables false

set_option maxRecDepth 100000 in
set_option maxHeartbeats 8000000 in
theorem mediaF_any (a : DevA) (r : RefA) (D : DevS) (w : World) (h : DevIs w a D) (hr : RefIs w r D) :
    Calls Tryz.prog 15 #[.pointer (some ⟨a.bd, 0, none⟩), .pointer (some ⟨r.rd, 0, none⟩)] w fun e w' => e = .returned (.bool true) ∧ Gr [] w w' := by
  have hnI : D.n ≤ 8192 := hr.hi
  have hmb := h.ok.medB
  have HD := Lib.hid h
  have HR := Lib.hid hr
  have HMB := Lib.hid hmb
  obtain ⟨n, hn⟩ : ∃ n, n = D.n := ⟨_, rfl⟩
  have c1 := hr.c1
  rw [← hn] at c1 hnI
  have HN := Lib.hid hn
  clear h hr hmb hn
  go_enter Tryz.func15, Tryz.ntmps15
  go_wp2_with fail
  clear c1
  go_loopw [11] (fun u wr => ∃ i : Nat, i ≤ n ∧ u = .int .i64 (i : Int) ∧ Gr [] w wr) (fun u _ => n - (intOf u).toNat)
  case atStart => exact ⟨0, by omega, rfl, Gr.refl _ _⟩
  case round =>
    obtain ⟨i, hi, rfl, g⟩ := hrel
    have HG := Lib.hid g
    have HD2 := Lib.hid (HD.out.gr0 g)
    have HR2 := Lib.hid (HR.out.gr0 g)
    clear g
    by_cases hin : i < n
    · have ij : (i : Int) < (n : Int) := by omega
      have hiD : i < D.n := by rw [← HN.out]; exact hin
      have HMd := Lib.hid (fun W (q : RefIs W r D) => show Calls Tryz.prog 53 #[.pointer (some ⟨r.rd, 0, none⟩), .int .i64 (i : Int)] W fun e w' => e = .returned (.string (medS D i)) ∧ Gr [] W w' from rmedia4_any r D i W q hiD HMB.out)
      have HTk := Lib.hid (fun W (q : DevIs W a D) => took_any a D (i : Int) (medS D i) W q (by rw [medS_size]; unfold maxLen; omega))
      rw [took_med HMB.out hiD] at HTk
      generalize medS D i = MT at *
      clear hiD
      go_wp2_with fail
      refine (HMd.out _ HR2.out).mono ?_
      rintro e w2 ⟨rfl, g2⟩
      have HG2 := Lib.hid (HG.out.trans g2)
      have HD3 := Lib.hid (HD2.out.gr0 g2)
      clear g2
      go_wp2_with fail
      refine (HTk.out _ HD3.out).mono ?_
      rintro e w3 ⟨rfl, g3⟩
      have HGy := Lib.hid (HG2.out.trans (by first | exact g3 | exact Gr.ofBelow g3))
      clear g3
      go_wp2_with fail
      go_roundw
      case rel => exact ⟨i + 1, by omega, by go_num, HGy.out⟩
      case measure => simp [intOf]; omega
    · obtain rfl : i = n := by omega
      have ij : ¬ ((i : Int) < (i : Int)) := by omega
      have HCt := Lib.hid (fun W (q : DevIs W a D) => count_any a D W q)
      have HOf := Lib.hid (fun W (q : DevIs W a D) => off_any a D W q)
      have c5 := HR2.out.c5
      have c4 := HR2.out.c4
      generalize D.cnt = ct at *
      generalize D.off = o at *
      have k0 := kp_cell c5
      have k1 := kp_cell c4
      have hne := kp_ne wr
      clear c5 c4
      go_wp2_with fail
      refine wp_region_kp (by kernel_rfl) (by kernel_rfl) ?_
      repeat (go_big_quiet_step ((rename_i x; first
        | exact kp_call x ((HCt.out _ (HD2.out.kp x.h)).mono fun _ _ q => ⟨q.1, by rw [← q.2]; exact Below.refl _ _⟩)
        | exact kp_call x ((HOf.out _ (HD2.out.kp x.h)).mono fun _ _ q => ⟨q.1, by rw [← q.2]; exact Below.refl _ _⟩))))
      with_reducible refine wpQuiet_nil ?_
      rintro _ ⟨y, rfl⟩
      have HGy := Lib.hid (HG.out.trans (Gr.ofBelow (cs := []) y.h))
      clear k0 k1 hne
      generalize y.w = w2 at *
      go_wp2_with fail
      go_ret
      exact ⟨rfl, HGy.out⟩
end Go.Proofs.YtjbhallhmnahbaaGreat

/-
  Contracts of package gap's functions.
-/
namespace Go.Proofs.YtjbhallhmnahbaaGreat
open Go.RowKit

def rightS (s g n : Int) : Prop := 1 ≤ n ∧ n ≤ 1024 ∧ 0 ≤ s ∧ s < n ∧ 0 ≤ g ∧ g ≤ n
instance (s g n : Int) : Decidable (rightS s g n) := by unfold rightS; infer_instance
def stC (s g m : Int) : Obj := .cells #[.int .i64 s, .int .i64 g, .int .u32 m] 154

theorem ring_yes (n : Int) (w : World) (h1 : 1 ≤ n) (h2 : n ≤ 1024) : Calls Tryz.prog 147 #[.int .i64 n] w fun e w' => e = .returned (.bool true) ∧ w = w' := by
  go_enter Tryz.func147, Tryz.ntmps147
  go_wp2
  go_ret
  exact ⟨by first | rfl | (simp; omega), rfl⟩
theorem ring_no (n : Int) (w : World) (h : n < 1 ∨ (1 ≤ n ∧ 1024 < n)) : Calls Tryz.prog 147 #[.int .i64 n] w fun e w' => e = .returned (.bool false) ∧ w = w' := by
  rcases h with h | ⟨h, h'⟩
  all_goals
    go_enter Tryz.func147, Tryz.ntmps147
    go_wp2
    go_ret
    exact ⟨by first | rfl | (simp; omega), rfl⟩

set_option maxHeartbeats 800000 in
theorem right_yes (s g m n : Int) (w : World) (h : rightS s g n) : Calls Tryz.prog 110 #[.agg #[.int .i64 s, .int .i64 g, .int .u32 m], .int .i64 n] w fun e w' => e = .returned (.bool true) ∧ w.alloc (stC s g m) = w' := by
  obtain ⟨h1, h2, h3, h4, h5, h6⟩ := h
  go_enter Tryz.func110, Tryz.ntmps110
  go_wp2_with (go_at_call 147; refine (ring_yes _ _ (by omega) (by omega)).mono ?_; rintro e w' ⟨rfl, rfl⟩)
  go_ret
  exact ⟨by first | rfl | (simp; omega), rfl⟩
def slotI (s g n i : Int) : Int := if (i + s) % n < g then (i + s) % n else (i + s) % n + 1
def lineI (s g n p : Int) : Int := ((if g < p then p - 1 else p) - s + n) % n

set_option maxHeartbeats 800000 in
theorem slot_yes (s g m n i : Int) (w : World) (h : rightS s g n) (h0 : 0 ≤ i) (h1 : i < n) :
    Calls Tryz.prog 172 #[.agg #[.int .i64 s, .int .i64 g, .int .u32 m], .int .i64 n, .int .i64 i] w fun e w' => e = .returned (.int .i64 (slotI s g n i)) ∧ Below w.heap.size w w' := by
  have H := Lib.hid h
  obtain ⟨a1, a2, a3, a4, a5, a6⟩ := h
  have q1 := Int.emod_nonneg (i + s) (show n ≠ 0 by omega)
  have q2 := Int.emod_lt_of_pos (i + s) (show 0 < n by omega)
  by_cases c : (i + s) % n < g
  · have e : slotI s g n i = (i + s) % n := by unfold slotI; rw [if_pos c]
    rw [e]
    clear e
    go_enter Tryz.func172, Tryz.ntmps172
    go_wp2_with (go_at_call 110; refine (right_yes _ _ _ _ _ H.out).mono ?_; rintro e w' ⟨rfl, rfl⟩; unfold stC)
    go_ret
    exact ⟨rfl, by go_grown⟩
  · have e : slotI s g n i = (i + s) % n + 1 := by unfold slotI; rw [if_neg c]
    rw [e]
    clear e
    go_enter Tryz.func172, Tryz.ntmps172
    go_wp2_with (go_at_call 110; refine (right_yes _ _ _ _ _ H.out).mono ?_; rintro e w' ⟨rfl, rfl⟩; unfold stC)
    go_ret
    exact ⟨rfl, by go_grown⟩
end Go.Proofs.YtjbhallhmnahbaaGreat
