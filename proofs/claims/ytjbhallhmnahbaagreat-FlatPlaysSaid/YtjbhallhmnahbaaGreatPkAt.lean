/-
  PkAt: LnL, SpL, SumP, GapM, Sum.
-/
import Derived.Test.YtjbhallhmnahbaaGreatPkAs
import Derived.Test.YtjbhallhmnahbaaGreatPkAn
import Derived.Test.YtjbhallhmnahbaaGreatPkAa
import Derived.Test.YtjbhallhmnahbaaGreatPkAl

set_option linter.unusedVariables false

/-
  The reference of layer 4: Get, Media.
-/
namespace Go.Proofs.YtjbhallhmnahbaaGreat
open Go.RowKit
set_option linter.unusedVariables false

theorem cat_size (ns : List Nat) : (ByteArray.mk (catL ns).toArray).size = 8 * ns.length := by rw [size_is, catL_length]
theorem loadP_ok {D : DevS} {i : Nat} (ho : D.off = false) (hi : i < 8 * D.n) : loadP D (i : Int) = ((loadV D i : Int), 0) := by
  unfold loadP
  rw [if_neg (by rw [decide_eq_true (show 0 ≤ (i : Int) ∧ (i : Int) < 8 * D.n by omega)]; unfold reachE; rw [ho]; simp), Int.toNat_natCast]
set_option maxRecDepth 20000 in
set_option maxHeartbeats 2000000 in
theorem rget4_yes (r : RefA) (D : DevS) (l : Nat) (w : World) (h : RefIs w r D) (hl : l < D.n) (ho : D.off = false) (hlt8 : ∀ i, loadV D i < 18446744073709551616) :
    Calls Tryz.prog 129 #[.pointer (some ⟨r.rd, 0, none⟩), .int .i64 (l : Int)] w fun e w' => e = .returned (.tuple #[.string ⟨(getT D l).toArray⟩, .int .i64 0]) ∧ Gr [] w w' := by
  have c4 := h.c4
  have c1 := h.c1
  have hn := h.hi
  rw [ho] at c4
  have d1 : decide ((l : Int) < 0) = false := by simp
  have d2n : decide (D.n ≤ l) = false := by simp; omega
  have d2m : ¬ D.n ≤ l := by omega
  have hl3 : l ≤ 8192 := by omega
  obtain ⟨F, hF⟩ : ∃ F : Nat → Nat, ∀ k, F k = loadV D (8 * l + k) := ⟨fun k => loadV D (8 * l + k), fun _ => rfl⟩
  obtain ⟨ns, hns⟩ : ∃ ns : List Nat, ns = [F 0, F 1, F 2, F 3, F 4, F 5, F 6, F 7] := ⟨_, rfl⟩
  have HL := Lib.hid (show ∀ W, Gr [] w W → ∀ k : Nat, k < 8 → Calls Tryz.prog 173 #[.pointer (some ⟨r.rd, 0, none⟩), .int .i64 ((8 * l + k : Nat) : Int)] W fun e w' => e = .returned (.tuple #[.int .u64 (F k : Int), .int .i64 0]) ∧ W = w' from fun W g k hk => by
    have q := ref_load ((8 * l + k : Nat) : Int) (h.gr0 g)
    rw [loadP_ok ho (by omega)] at q
    rw [hF]
    exact q)
  have HFB := Lib.hid (show ∀ k, F k < 18446744073709551616 from fun k => by rw [hF]; exact hlt8 _)
  have HNS := Lib.hid (show ∀ k, k < 8 → ns[k]? = some (F k) from fun k hk => by
    rw [hns]
    rcases (show k = 0 ∨ k = 1 ∨ k = 2 ∨ k = 3 ∨ k = 4 ∨ k = 5 ∨ k = 6 ∨ k = 7 by omega) with rfl | rfl | rfl | rfl | rfl | rfl | rfl | rfl <;> rfl)
  have HNL := Lib.hid (show ns.length = 8 by rw [hns]; rfl)
  have HT := Lib.hid (show getT D l = catL ns by rw [hns]; unfold getT; rw [hF, hF, hF, hF, hF, hF, hF, hF]; rfl)
  clear h hl ho hF hns hlt8
  generalize D.n = n at *
  go_enter Tryz.func129, Tryz.ntmps129
  go_wp2_with fail
  clear c1 c4 d2n d2m
  go_loopw [6, 7] (fun u z wr => ∃ (k : Nat) (S : ByteArray), k ≤ 8 ∧ u = .string S ∧ z = .int .i64 (k : Int) ∧ S = ⟨(catL (ns.take k)).toArray⟩ ∧ Gr [] w wr) (fun _ z _ => 8 - (intOf z).toNat)
  case atStart => exact ⟨0, ⟨#[]⟩, by omega, rfl, rfl, rfl, Gr.refl _ _⟩
  case round =>
    obtain ⟨k, S, hk, rfl, rfl, hS, g⟩ := hrel
    by_cases hlt : k < 8
    · have hd : decide ((k : Int) < 8) = true := by simp; omega
      have hss : S.size = 8 * k := by rw [hS, cat_size, List.length_take, HNL.out]; omega
      have hsl : S.size ≤ 64 := by omega
      obtain ⟨x, hx⟩ : ∃ x : Nat, x = 8 * l + k := ⟨_, rfl⟩
      have hx2 : 8 * (l : Int) + (k : Int) = (x : Int) := by omega
      have HLk := Lib.hid (HL.out wr g k hlt)
      rw [← hx] at HLk
      have HPk := Lib.hid (rput_any (F k) 8 wr (HFB.out k) (by omega) (by omega))
      rw [show clamp8 8 = 8 from rfl] at HPk
      have HCat := Lib.hid (show S ++ ByteArray.mk (putL (F k) 8).toArray = ByteArray.mk (catL (ns.take (k + 1))).toArray by rw [hS]; exact catL_str ns k (F k) (HNS.out k hlt))
      have HPS := Lib.hid (show (ByteArray.mk (putL (F k) 8).toArray).size = 8 by rw [size_is, putL_length])
      have HG := Lib.hid g
      clear g hS hx hss
      generalize F k = v at *
      go_wp2_with fail
      refine HLk.out.mono ?_
      rintro e w' ⟨rfl, rfl⟩
      go_wp2_with fail
      refine HPk.out.mono ?_
      rintro e w3 ⟨rfl, q3⟩
      have HG3 := Lib.hid (HG.out.nextB q3)
      clear q3
      obtain ⟨Y, hY⟩ : ∃ Y, ByteArray.mk (putL v 8).toArray = Y := ⟨_, rfl⟩
      have hYs : Y.size = 8 := by rw [← hY]; exact HPS.out
      rw [hY] at HCat
      rw [hY]
      clear hY
      go_wp2_with fail
      go_roundw
      case rel => exact ⟨k + 1, _, by omega, rfl, by go_num, HCat.out, HG3.out⟩
      case measure => simp [intOf]; omega
    · obtain rfl : k = 8 := by omega
      have HE := Lib.hid (show S = ⟨(getT D l).toArray⟩ by rw [hS, HT.out, List.take_of_length_le (by rw [HNL.out]; omega)])
      have HG := Lib.hid g
      clear hS g
      rw [show ((8 : Nat) : Int) = 8 from rfl]
      go_wp2_with fail
      go_ret2
      rw [HE.out]
      exact ⟨rfl, HG.out⟩

/-! ### Media -/
def medT (D : DevS) (l : Nat) : List UInt8 := catL [D.med (8 * l), D.med (8 * l + 1), D.med (8 * l + 2), D.med (8 * l + 3), D.med (8 * l + 4), D.med (8 * l + 5), D.med (8 * l + 6), D.med (8 * l + 7)]
theorem RefIs.wm {W : World} {r : RefA} {D : DevS} (h : RefIs W r D) {i : Nat} (hi : i < 8 * D.n) : W.cell? ⟨r.rw, i * 4, none⟩ = some (.int .u64 (D.med i : Int)) := by
  obtain ⟨R, h1, h2⟩ := h
  rw [← h2.med i hi]
  exact h1.wm (by rw [h2.n]; exact hi)
set_option maxRecDepth 20000 in
set_option maxHeartbeats 2000000 in
theorem rmedia4_any (r : RefA) (D : DevS) (l : Nat) (w : World) (h : RefIs w r D) (hl : l < D.n) (hlt8 : ∀ i, D.med i < 18446744073709551616) :
    Calls Tryz.prog 53 #[.pointer (some ⟨r.rd, 0, none⟩), .int .i64 (l : Int)] w fun e w' => e = .returned (.string ⟨(medT D l).toArray⟩) ∧ Gr [] w w' := by
  have hn := h.hi
  have hl3 : l ≤ 8192 := by omega
  obtain ⟨F, hF⟩ : ∃ F : Nat → Nat, ∀ k, F k = D.med (8 * l + k) := ⟨fun k => D.med (8 * l + k), fun _ => rfl⟩
  obtain ⟨ns, hns⟩ : ∃ ns : List Nat, ns = [F 0, F 1, F 2, F 3, F 4, F 5, F 6, F 7] := ⟨_, rfl⟩
  have HFB := Lib.hid (show ∀ k, F k < 18446744073709551616 from fun k => by rw [hF]; exact hlt8 _)
  have HNS := Lib.hid (show ∀ k, k < 8 → ns[k]? = some (F k) from fun k hk => by
    rw [hns]
    rcases (show k = 0 ∨ k = 1 ∨ k = 2 ∨ k = 3 ∨ k = 4 ∨ k = 5 ∨ k = 6 ∨ k = 7 by omega) with rfl | rfl | rfl | rfl | rfl | rfl | rfl | rfl <;> rfl)
  have HNL := Lib.hid (show ns.length = 8 by rw [hns]; rfl)
  have HT := Lib.hid (show medT D l = catL ns by rw [hns]; unfold medT; rw [hF, hF, hF, hF, hF, hF, hF, hF]; rfl)
  have H := Lib.hid (And.intro h hl)
  have HF := Lib.hid hF
  clear h hns hlt8 hF
  go_enter Tryz.func53, Tryz.ntmps53
  go_wp2_with fail
  go_loopw [5, 6] (fun u z wr => ∃ (k : Nat) (S : ByteArray), k ≤ 8 ∧ u = .string S ∧ z = .int .i64 (k : Int) ∧ S = ⟨(catL (ns.take k)).toArray⟩ ∧ Gr [] w wr) (fun _ z _ => 8 - (intOf z).toNat)
  case atStart => exact ⟨0, ⟨#[]⟩, by omega, rfl, rfl, rfl, Gr.refl _ _⟩
  case round =>
    obtain ⟨k, S, hk, rfl, rfl, hS, g⟩ := hrel
    by_cases hlt : k < 8
    · have hd : decide ((k : Int) < 8) = true := by simp; omega
      have hss : S.size = 8 * k := by rw [hS, cat_size, List.length_take, HNL.out]; omega
      have hsl : S.size ≤ 64 := by omega
      obtain ⟨x, hx⟩ : ∃ x : Nat, x = 8 * l + k := ⟨_, rfl⟩
      have hx2 : 8 * (l : Int) + (k : Int) = (x : Int) := by omega
      have hxn : x < 8 * D.n := by have := H.out.2; omega
      have hxi : (x : Int) < 8 * (D.n : Int) := by omega
      have hx0 : (0 : Int) ≤ (x : Int) := by omega
      have c0 := (H.out.1.gr0 g).c0
      have m0 := (H.out.1.gr0 g).wm hxn
      rw [show D.med x = F k by rw [HF.out, hx]] at m0
      have HPk := Lib.hid (rput_any (F k) 8 wr (HFB.out k) (by omega) (by omega))
      rw [show clamp8 8 = 8 from rfl] at HPk
      have HCat := Lib.hid (show S ++ ByteArray.mk (putL (F k) 8).toArray = ByteArray.mk (catL (ns.take (k + 1))).toArray by rw [hS]; exact catL_str ns k (F k) (HNS.out k hlt))
      have HPS := Lib.hid (show (ByteArray.mk (putL (F k) 8).toArray).size = 8 by rw [size_is, putL_length])
      have HG := Lib.hid g
      clear g hS hx hss
      generalize F k = v at *
      generalize D.n = n at *
      go_wp2_with fail
      refine HPk.out.mono ?_
      rintro e w3 ⟨rfl, q3⟩
      have HG3 := Lib.hid (HG.out.nextB q3)
      clear q3
      obtain ⟨Y, hY⟩ : ∃ Y, ByteArray.mk (putL v 8).toArray = Y := ⟨_, rfl⟩
      have hYs : Y.size = 8 := by rw [← hY]; exact HPS.out
      rw [hY] at HCat
      rw [hY]
      clear hY
      go_wp2_with fail
      go_roundw
      case rel => exact ⟨k + 1, _, by omega, rfl, by go_num, HCat.out, HG3.out⟩
      case measure => simp [intOf]; omega
    · obtain rfl : k = 8 := by omega
      have HE := Lib.hid (show S = ⟨(medT D l).toArray⟩ by rw [hS, HT.out, List.take_of_length_le (by rw [HNL.out]; omega)])
      have HG := Lib.hid g
      clear hS g
      rw [show ((8 : Nat) : Int) = 8 from rfl]
      go_wp2_with fail
      go_ret
      rw [HE.out]
      exact ⟨rfl, HG.out⟩

end Go.Proofs.YtjbhallhmnahbaaGreat

/-
  Layer 5: the document's plans; the law's small.
-/
namespace Go.Proofs.YtjbhallhmnahbaaGreat
open Go.RowKit

theorem rplan_cells (p : PlanZ) (w : World) : (w.alloc (Obj.cells #[.int .i64 p.a, .int .i64 p.l, .int .i64 p.s] 138)).cell? ⟨w.heap.size, 0, none⟩ = some (.int .i64 p.a) ∧ (w.alloc (Obj.cells #[.int .i64 p.a, .int .i64 p.l, .int .i64 p.s] 138)).cell? ⟨w.heap.size, 1, none⟩ = some (.int .i64 p.l) ∧ (w.alloc (Obj.cells #[.int .i64 p.a, .int .i64 p.l, .int .i64 p.s] 138)).cell? ⟨w.heap.size, 2, none⟩ = some (.int .i64 p.s) := (Holds.new w _ _).three
theorem below_rplan (p : PlanZ) (w : World) : Below w.heap.size w (w.alloc (Obj.cells #[.int .i64 p.a, .int .i64 p.l, .int .i64 p.s] 138)) := (Below.refl _ w).alloc (Nat.le_refl _) _
theorem rtable_any (p : PlanZ) (hp : okZ p = true) (w : World) : Calls Tryz.prog 130 #[planV p] w fun e w' => e = .returned (.int .i64 (tabZ p)) ∧ Below w.heap.size w w' := by
  obtain ⟨a, l, s⟩ := p
  obtain ⟨h1, h2, h3, h4, h5, h6⟩ := (okZ_iff _).1 hp
  simp only at h1 h2 h3 h4 h5 h6
  unfold planV tabZ
  simp only
  have HB := Lib.hid ((Below.refl w.heap.size w).alloc (Nat.le_refl _) (Obj.cells #[.int .i64 a, .int .i64 l, .int .i64 s] 138))
  clear hp
  go_enter Tryz.func130, Tryz.ntmps130
  go_wp2
  go_ret
  exact ⟨rfl, HB.out⟩
set_option maxHeartbeats 4000000 in
theorem rsize_any (p : PlanZ) (hp : okZ p = true) (w : World) : Calls Tryz.prog 68 #[planV p] w fun e w' => e = .returned (.int .i64 (sizeZ p)) ∧ Below w.heap.size w w' := by
  obtain ⟨c0, c1, c2⟩ := rplan_cells p w
  have HB := Lib.hid (below_rplan p w)
  obtain ⟨w1, hw1⟩ : ∃ w1, w1 = w.alloc (Obj.cells #[.int .i64 p.a, .int .i64 p.l, .int .i64 p.s] 138) := ⟨_, rfl⟩
  have hl : w.heap.size < w1.heap.size := by rw [hw1, World.size_alloc]; omega
  have hs : sizeZ p = tabZ p + p.l + p.s := by unfold sizeZ; rw [if_pos hp]
  obtain ⟨h1, h2, h3, h4, h5, h6⟩ := (okZ_iff p).1 hp
  have HT := Lib.hid (fun W => show Calls Tryz.prog 130 #[.agg #[.int .i64 p.a, .int .i64 p.l, .int .i64 p.s]] W _ from rtable_any p hp W)
  have ht : 0 ≤ tabZ p ∧ tabZ p ≤ 8 := by unfold tabZ; omega
  obtain ⟨t, htt⟩ : ∃ t, t = tabZ p := ⟨_, rfl⟩
  rw [← htt] at HT hs ht
  have HS := Lib.hid hs
  have i1 : IntKind.i64.wrap (t + p.l) = t + p.l := IntWalk.i64_in _ (by omega)
  have i2 : IntKind.i64.wrap (t + p.l + p.s) = t + p.l + p.s := IntWalk.i64_in _ (by omega)
  clear hp hs htt ht
  unfold planV
  go_enter Tryz.func68, Tryz.ntmps68
  go_wp2_with fail
  rw [← hw1] at c0 c1 c2 HB ⊢
  clear hw1
  refine (HT.out _).mono ?_
  rintro e w2 ⟨rfl, hb2⟩
  replace c0 := (hb2.cell (p := ⟨w.heap.size, 0, none⟩) hl).trans c0
  replace c1 := (hb2.cell (p := ⟨w.heap.size, 1, none⟩) hl).trans c1
  replace c2 := (hb2.cell (p := ⟨w.heap.size, 2, none⟩) hl).trans c2
  have HB2 := Lib.hid (Below_nx HB.out hb2)
  clear hb2
  go_wp2_with fail
  go_ret
  exact ⟨by rw [HS.out]; rfl, HB2.out⟩
set_option maxHeartbeats 8000000 in
theorem rcheck_any (p : PlanZ) (n : Int) (w : World) : Calls Tryz.prog 137 #[planV p, .int .i64 n] w fun e w' => e = .returned (.int .i64 (checkZ p n)) ∧ Below w.heap.size w w' := by
  obtain ⟨c0, c1, c2⟩ := rplan_cells p w
  have HB := Lib.hid (below_rplan p w)
  by_cases h : 0 ≤ p.a ∧ p.a ≤ 8192 ∧ 1 ≤ p.l ∧ p.l ≤ 1026 ∧ 0 ≤ p.s ∧ p.s ≤ 64
  · have hok := (okZ_iff p).2 h
    obtain ⟨w1, hw1⟩ : ∃ w1, w1 = w.alloc (Obj.cells #[.int .i64 p.a, .int .i64 p.l, .int .i64 p.s] 138) := ⟨_, rfl⟩
    have hl : w.heap.size < w1.heap.size := by rw [hw1, World.size_alloc]; omega
    obtain ⟨h1, h2, h3, h4, h5, h6⟩ := h
    have HT := Lib.hid (fun W => show Calls Tryz.prog 68 #[.agg #[.int .i64 p.a, .int .i64 p.l, .int .i64 p.s]] W _ from rsize_any p hok W)
    have ht : 0 ≤ sizeZ p ∧ sizeZ p ≤ 2000 := by unfold sizeZ tabZ; rw [if_pos hok]; omega
    have hc : checkZ p n = if n < p.a + sizeZ p then 3 else 0 := by unfold checkZ; rw [if_pos hok]
    obtain ⟨t, htt⟩ : ∃ t, t = sizeZ p := ⟨_, rfl⟩
    rw [← htt] at HT ht hc
    have HC := Lib.hid hc
    have i1 : IntKind.i64.wrap (p.a + t) = p.a + t := IntWalk.i64_in _ (by omega)
    clear htt hc hok ht
    unfold planV
    by_cases hlt : n < p.a + t
    · have HC2 := Lib.hid (show checkZ p n = 3 by rw [HC.out, if_pos hlt])
      go_enter Tryz.func137, Tryz.ntmps137
      go_wp2_with fail
      rw [← hw1] at c0 c1 c2 HB ⊢
      clear hw1
      refine (HT.out _).mono ?_
      rintro e w2 ⟨rfl, hb2⟩
      replace c0 := (hb2.cell (p := ⟨w.heap.size, 0, none⟩) hl).trans c0
      have HB2 := Lib.hid (Below_nx HB.out hb2)
      clear hb2
      go_wp2_with fail
      go_ret
      exact ⟨by rw [HC2.out]; rfl, HB2.out⟩
    · have HC2 := Lib.hid (show checkZ p n = 0 by rw [HC.out, if_neg hlt])
      go_enter Tryz.func137, Tryz.ntmps137
      go_wp2_with fail
      rw [← hw1] at c0 c1 c2 HB ⊢
      clear hw1
      refine (HT.out _).mono ?_
      rintro e w2 ⟨rfl, hb2⟩
      replace c0 := (hb2.cell (p := ⟨w.heap.size, 0, none⟩) hl).trans c0
      have HB2 := Lib.hid (Below_nx HB.out hb2)
      clear hb2
      go_wp2_with fail
      go_ret
      exact ⟨by rw [HC2.out]; rfl, HB2.out⟩
  · have HC := Lib.hid (show checkZ p n = 2 by unfold checkZ; rw [okZ_no p h]; rfl)
    rw [HC.out]
    unfold planV
    by_cases h1 : 0 ≤ p.a
    · by_cases h2 : p.a ≤ 8192
      · by_cases h3 : 1 ≤ p.l
        · by_cases h4 : p.l ≤ 1026
          · by_cases h5 : 0 ≤ p.s
            · have h6 : ¬ p.s ≤ 64 := fun q => h ⟨h1, h2, h3, h4, h5, q⟩
              clear h
              go_enter Tryz.func137, Tryz.ntmps137
              go_wp2
              go_ret
              exact ⟨rfl, HB.out⟩
            · clear h
              go_enter Tryz.func137, Tryz.ntmps137
              go_wp2
              go_ret
              exact ⟨rfl, HB.out⟩
          · clear h
            go_enter Tryz.func137, Tryz.ntmps137
            go_wp2
            go_ret
            exact ⟨rfl, HB.out⟩
        · clear h
          go_enter Tryz.func137, Tryz.ntmps137
          go_wp2
          go_ret
          exact ⟨rfl, HB.out⟩
      · clear h
        go_enter Tryz.func137, Tryz.ntmps137
        go_wp2
        go_ret
        exact ⟨rfl, HB.out⟩
    · clear h
      go_enter Tryz.func137, Tryz.ntmps137
      go_wp2
      go_ret
      exact ⟨rfl, HB.out⟩
end Go.Proofs.YtjbhallhmnahbaaGreat

/-
  Plain lemmas on the reference's register: bit by bit.
-/
namespace Go.Proofs.YtjbhallhmnahbaaGreat
open Go.RowKit

def st {w : Nat} (p x : BitVec w) (b : Bool) : BitVec w := (x <<< 1) ^^^ (if (x.msb ^^ b) = true then p else 0#w)
def bitsHi (u : UInt8) : List Bool := (List.range 8).map fun k => u.toNat.testBit (7 - k)
def bitsLo (u : UInt8) : List Bool := (List.range 8).map fun k => u.toNat.testBit k
theorem st16 (x : BitVec 16) (b : Bool) : st 0x1021#16 x b = s16 x ^^^ (if b = true then 0x1021#16 else 0#16) := by
  unfold st s16
  rw [ite_xor, BitVec.xor_assoc]
def it16 : Nat → BitVec 16 → BitVec 16
  | 0, x => x
  | n + 1, x => it16 n (s16 x)
theorem fold16 (l : List Bool) : ∀ (x y : BitVec 16), l.foldl (st 0x1021#16) (x ^^^ y) = it16 l.length x ^^^ l.foldl (st 0x1021#16) y := by
  induction l with
  | nil => intro x y; rfl
  | cons b l ih =>
    intro x y
    have e : st 0x1021#16 (x ^^^ y) b = s16 x ^^^ st 0x1021#16 y b := by
      rw [st16, st16, s16_xor, BitVec.xor_assoc]
    simp only [List.foldl_cons, List.length_cons, it16]
    rw [e, ih]
theorem byte0_16 : ∀ n : Fin 256, (bitsHi (UInt8.ofNat n)).foldl (st 0x1021#16) 0#16 = b16 0#16 (UInt8.ofNat n) := by decide +kernel
theorem byte16 (x : BitVec 16) (u : UInt8) : (bitsHi u).foldl (st 0x1021#16) x = b16 x u := by
  have h0 := byte0_16 ⟨u.toNat, u.toNat_lt⟩
  have hu : UInt8.ofNat u.toNat = u := by simp
  simp only [hu] at h0
  have h1 := fold16 (bitsHi u) x 0#16
  rw [BitVec.xor_zero, h0] at h1
  rw [h1]
  have h2 := b16_xor x 0#16 0 u
  rw [BitVec.xor_zero, show (0 : UInt8) ^^^ u = u by simp] at h2
  rw [h2]
  congr 1
  have : (bitsHi u).length = 8 := by simp [bitsHi]
  rw [this]
  unfold b16
  simp [it16]
theorem sum16_bits (l : List UInt8) : ∀ x : BitVec 16, (l.flatMap bitsHi).foldl (st 0x1021#16) x = c16 l x := by
  induction l with
  | nil => intro x; rfl
  | cons u l ih =>
    intro x
    rw [List.flatMap_cons, List.foldl_append, byte16, ih]
    rfl

end Go.Proofs.YtjbhallhmnahbaaGreat

/-
  The row that make lays, as facts for a walk.
-/
namespace Go.Proofs.YtjbhallhmnahbaaGreat
open Go.RowKit

theorem infoInt : (Tryz.prog.info? 3).map (fun i => (i.zero, i.size, i.bytes)) = some (some (.int .i64 0), 1, 8) := by kernel_rfl
theorem made_facts {w wm : World} {e : TypeId} {N g : Nat} {v u : Value} {xs : List Value} (hown : wm.ownsRow w.heap.size e 1 v N xs) (hv : v = .slice (some ⟨w.heap.size, 0, none⟩) N N) (hgrow : w.grownBy wm none) (hg : g < N) :
    ∃ (x0 : Value) (ys : List Value), ys.length = N ∧ ys[g]? = some u ∧ wm.cell? ⟨w.heap.size, g, none⟩ = some x0 ∧ wm.frozen? ⟨w.heap.size, g, none⟩ = false ∧
      (wm.setCell ⟨w.heap.size, g, none⟩ u).ownsRow w.heap.size e 1 v N ys ∧ Below w.heap.size w (wm.setCell ⟨w.heap.size, g, none⟩ u) := by
  subst hv
  have hl : xs.length = N := by simpa using hown.1
  have hb2 : Below w.heap.size w wm := (Below.refl _ _).grown hgrow (by simp) (fun k hk => by cases hk)
  have hc := hown.cellAt g (by omega)
  rw [List.getElem?_eq_getElem (by omega)] at hc
  exact ⟨_, xs.set g u, by simpa using hl, by simp [hl, hg], by simpa using hc, by simpa using hown.frozenAt g, by simpa using (hown.stored g u).1, hb2.setCell (p := ⟨w.heap.size, g, none⟩) (by simp) u⟩


end Go.Proofs.YtjbhallhmnahbaaGreat

/-
  The reference's Sum: a register as a row of bits.
-/
namespace Go.Proofs.YtjbhallhmnahbaaGreat
open Go.RowKit

def bv (b : Bool) : Value := .int .i64 (b.toNat : Int)
def RegIs (xs : List Value) (n : Nat) (f : Nat → Bool) : Prop := xs.length = n ∧ ∀ j, j < n → xs[j]? = some (bv (f j))
theorem RegIs.set {xs : List Value} {n : Nat} {f g : Nat → Bool} (h : RegIs xs n f) (k : Nat) (b : Bool) (hk : k < n) (hg : g k = b) (ho : ∀ j, j < n → j ≠ k → g j = f j) : RegIs (xs.set k (bv b)) n g := by
  refine ⟨by simpa using h.1, fun j hj => ?_⟩
  have := h.1
  by_cases e : j = k
  · subst e; rw [List.getElem?_set_self (by omega), hg]
  · rw [List.getElem?_set_ne (fun h => e h.symm), ho j hj e]; exact h.2 j hj
theorem RegIs.congr {xs : List Value} {n : Nat} {f g : Nat → Bool} (h : RegIs xs n f) (ho : ∀ j, j < n → g j = f j) : RegIs xs n g :=
  ⟨h.1, fun j hj => by rw [ho j hj]; exact h.2 j hj⟩
def shF (n : Nat) (f : Nat → Bool) : Nat → Bool := fun j => if j + 1 < n then f (j + 1) else false
def stF (n : Nat) (t f : Nat → Bool) (b : Bool) : Nat → Bool := fun j => if (f 0 ^^ b) = true then (shF n f j ^^ t j) else shF n f j
theorem own_keepS {w w' : World} {base : Nat} {e : TypeId} {size n : Nat} {v : Value} {xs : List Value} (h : w.ownsRow base e size v n xs) (hb : Below w.heap.size w w') : w'.ownsRow base e size v n xs := by
  refine ⟨h.1, ?_⟩
  rcases h.2 with hn | ⟨g, cap, cur, rfl, hg, hh, rest⟩
  · exact .inl hn
  · exact .inr ⟨g, cap, cur, rfl, hg, (hb.block g (Array.getElem?_eq_some_iff.1 hh).1).trans hh, rest⟩
theorem make_below {w wm : World} (hgrow : w.grownBy wm none) : Below w.heap.size w wm := (Below.refl _ _).grown hgrow (by simp) (fun k hk => by cases hk)
theorem below_drewN {B : Nat} {a w : World} (h : Below B a w) (n : Nat) : Below B a (w.drewN n) := ⟨h.os, h.tape, h.output, h.size, h.block⟩
theorem bit_sum (a b : Bool) : ((a.toNat : Int) + (b.toNat : Int)) % 2 = ((a ^^ b).toNat : Int) := by cases a <;> cases b <;> rfl
theorem bit_le (a : Bool) : a.toNat ≤ 1 := by cases a <;> simp

set_option maxRecDepth 100000 in
set_option maxHeartbeats 2000000 in
theorem rsum (n L lb lc tb tc : Nat) (ls : List Bool) (t : Nat → Bool) (xt : List Value) (w : World) (n1 : 1 ≤ n) (n2 : n ≤ 64) (hL : ls.length = L) (hL2 : L ≤ 100000)
    (hl : w.ownsRow 0 3 1 (.slice (some ⟨lb, 0, none⟩) L lc) L (ls.map bv)) (ht : w.ownsRow 0 3 1 (.slice (some ⟨tb, 0, none⟩) n tc) n xt) (hxt : RegIs xt n t) :
    Calls Tryz.prog 157 #[.slice (some ⟨lb, 0, none⟩) L lc, .slice (some ⟨tb, 0, none⟩) n tc] w fun e w' => ∃ xs : List Value, e = .returned (.slice (some ⟨w.heap.size, 0, none⟩) n n) ∧
      w'.ownsRow w.heap.size 3 1 (.slice (some ⟨w.heap.size, 0, none⟩) n n) n xs ∧ RegIs xs n (ls.foldl (stF n t) (fun _ => true)) ∧ Below w.heap.size w w' := by
  obtain ⟨i0, hi, hz0, hz1, hz2⟩ := info_parts infoInt
  have lbs : lb < w.heap.size := (hl.lt lb rfl).2
  have tbs : tb < w.heap.size := (ht.lt tb rfl).2
  have HL := Lib.hid hl
  have HT := Lib.hid ht
  have HXT := Lib.hid hxt
  clear hl ht hxt
  go_enter Tryz.func157, Tryz.ntmps157
  go_wp2_with (refine wpList_make_full _ rfl _ _ 61 rfl w.heap.size 3 i0 (.int .i64 0) 1 Tryz.underlying61 hi hz0 hz1 .i64 .i64 _ _ n rfl rfl rfl rfl (by rw [hz2]; omega) (by unfold maxLen; omega) (by simp) ?_; intro wm hown hgrow; have B1 := make_below hgrow; clear hgrow)
  generalize (madeCells (Value.cells (.int .i64 0)) (n * 1)).toList = xs0 at *
  go_loopw [6] (fun i wr => ∃ (k : Nat) (xs : List Value), k ≤ n ∧ i = .int .i64 k ∧ wr.ownsRow w.heap.size 3 1 (.slice (some ⟨w.heap.size, 0, none⟩) n n) n xs ∧ (∀ j, j < k → xs[j]? = some (bv true)) ∧ Below w.heap.size w wr) (fun i _ => n - (intOf i).toNat)
  case atStart => exact ⟨0, xs0, by omega, rfl, hown, fun p hp => by omega, B1⟩
  case round =>
    clear hown B1
    obtain ⟨k, xs, hk, rfl, hown, hdone, B2⟩ := hrel
    have hx : xs.length = n := by simpa using hown.1
    by_cases hlt : k < n
    · have hst := hown.stored k (.int .i64 1)
      have hc := hown.cellAt k (by omega)
      rw [List.getElem?_eq_getElem (by omega)] at hc
      have hf := hown.frozenAt k
      have hnext : ∀ p, p < k + 1 → (xs.set k (.int .i64 1))[p]? = some (bv true) := by
        intro p hp
        by_cases e : p = k
        · subst e; rw [List.getElem?_set_self (by omega)]; rfl
        · rw [List.getElem?_set_ne (fun h => e h.symm)]; exact hdone p (by omega)
      have RR := Lib.hid (And.intro hst.1 (And.intro hnext (B2.setCell (p := ⟨w.heap.size, k, none⟩) (by simp) (.int .i64 1))))
      generalize xs[k] = u at *
      clear hst hnext hdone hown B2
      go_wp2
      go_roundw
      case rel => exact ⟨k + 1, _, by omega, by go_num, RR.out.1, RR.out.2.1, RR.out.2.2⟩
      case measure => simp [intOf]; omega
    · have hr1 : RegIs xs n (fun _ => true) := ⟨hx, fun j hj => hdone j (by omega)⟩
      have HR1 := Lib.hid (And.intro hown hr1)
      clear hdone hown hx
      go_wp2_with fail
      go_loopw [7] (fun i wr => ∃ (k : Nat) (xs : List Value), k ≤ L ∧ i = .int .i64 k ∧ wr.ownsRow w.heap.size 3 1 (.slice (some ⟨w.heap.size, 0, none⟩) n n) n xs ∧
          RegIs xs n ((ls.take k).foldl (stF n t) (fun _ => true)) ∧ Below w.heap.size w wr) (fun i _ => L - (intOf i).toNat)
      case atStart => exact ⟨0, xs, by omega, rfl, HR1.out.1, by simpa using HR1.out.2, B2⟩
      case round =>
        clear HR1 B2 hr1 hk
        obtain ⟨i, xs, hk, rfl, hown, hreg, B2⟩ := hrel
        by_cases hlt : i < L
        · obtain ⟨b, hb⟩ : ∃ b, ls[i]? = some b := ⟨_, List.getElem?_eq_getElem (by omega)⟩
          have hnx : (ls.take (i + 1)).foldl (stF n t) (fun _ => true) = stF n t ((ls.take i).foldl (stF n t) (fun _ => true)) b := by
            rw [List.take_add_one, hb, List.foldl_append]; rfl
          have HNX := Lib.hid hnx
          clear hnx
          generalize (ls.take i).foldl (stF n t) (fun _ => true) = f at *
          have hlr := (own_keepS HL.out B2).cellAt i (by omega)
          rw [List.getElem?_map, hb] at hlr
          have hlr2 : wr.cell? ⟨lb, i, none⟩ = some (.int .i64 (b.toNat : Int)) := hlr
          have h0 : wr.cell? ⟨w.heap.size, 0, none⟩ = some (.int .i64 ((f 0).toNat : Int)) := by
            rw [hown.cellAt 0 (by omega)]; exact hreg.2 0 (by omega)
          have hsum := bit_sum (f 0) b
          have q1 := bit_le (f 0)
          have q2 := bit_le b
          have q3 := bit_le (f 0 ^^ b)
          obtain ⟨o, ho⟩ : ∃ o, (f 0 ^^ b) = o := ⟨_, rfl⟩
          rw [ho] at hsum q3
          obtain ⟨O, hO⟩ : ∃ O : Int, O = (o.toNat : Int) := ⟨_, rfl⟩
          rw [← hO] at hsum
          have q4 : 0 ≤ O ∧ O ≤ 1 := by omega
          have HOO := Lib.hid (And.intro ho hO)
          clear hO q3
          have HH := Lib.hid (And.intro hown hreg)
          clear ho hlr hown hreg hb
          go_wp2_with fail
          go_quiet (fail)
          go_wp2_with fail
          rw [hsum]
          clear hlr2 h0 hsum q1 q2
          go_loopw [9] (fun i wr => ∃ (k : Nat) (ys : List Value), k + 1 ≤ n ∧ i = .int .i64 k ∧ wr.ownsRow w.heap.size 3 1 (.slice (some ⟨w.heap.size, 0, none⟩) n n) n ys ∧
              RegIs ys n (fun j => if j < k then f (j + 1) else f j) ∧ Below w.heap.size w wr) (fun i _ => n - (intOf i).toNat)
          case atStart => exact ⟨0, xs, by omega, rfl, HH.out.1, HH.out.2.congr (by intro j hj; simp), below_drewN B2 _⟩
          case round =>
            clear HH B2
            obtain ⟨k, ys, hk1, rfl, hown, hreg, B2⟩ := hrel
            by_cases hlt2 : k + 1 < n
            · have hc : wr.cell? ⟨w.heap.size, k + 1, none⟩ = some (.int .i64 ((f (k + 1)).toNat : Int)) := by
                rw [hown.cellAt (k + 1) (by omega), hreg.2 (k + 1) hlt2]; exact congrArg (fun b => some (bv b)) (if_neg (by omega))
              have hd : wr.cell? ⟨w.heap.size, k, none⟩ = some (.int .i64 ((f k).toNat : Int)) := by
                rw [hown.cellAt k (by omega), hreg.2 k (by omega)]; exact congrArg (fun b => some (bv b)) (if_neg (by omega))
              have hf := hown.frozenAt k
              have hst := hown.stored k (bv (f (k + 1)))
              have RR := Lib.hid (And.intro hst.1 (And.intro (hreg.set (g := fun j => if j < k + 1 then f (j + 1) else f j) k (f (k + 1)) (by omega) (by simp) (by
                intro j hj hne
                by_cases c : j < k
                · simp only [if_pos c, if_pos (show j < k + 1 by omega)]
                · simp only [if_neg c, if_neg (show ¬ j < k + 1 by omega)])) (B2.setCell (p := ⟨w.heap.size, k, none⟩) (by simp) (bv (f (k + 1))))))
              clear hst hown hreg B2
              unfold bv at RR
              go_wp2
              go_roundw
              case rel => exact ⟨k + 1, _, by omega, by go_num, RR.out.1, RR.out.2.1, RR.out.2.2⟩
              case measure => simp [intOf]; omega
            · have hnk : (n : Int) - 1 = (k : Int) := by omega
              have hd : wr.cell? ⟨w.heap.size, k, none⟩ = some (.int .i64 ((f k).toNat : Int)) := by
                rw [hown.cellAt k (by omega), hreg.2 k (by omega)]; exact congrArg (fun b => some (bv b)) (if_neg (by omega))
              have hf := hown.frozenAt k
              have hst := hown.stored k (.int .i64 0)
              have RR := Lib.hid (And.intro hst.1 (And.intro (hreg.set (g := shF n f) k false (by omega) (by unfold shF; rw [if_neg hlt2]) (by
                intro j hj hne
                unfold shF
                simp only [if_pos (show j < k by omega), if_pos (show j + 1 < n by omega)])) (B2.setCell (p := ⟨w.heap.size, k, none⟩) (by simp) (.int .i64 0))))
              clear hst hown hreg B2
              go_wp2_with fail
              have RR2 := RR.out
              generalize wr.setCell ⟨w.heap.size, k, none⟩ (.int .i64 0) = wv at *
              clear hd hf
              generalize hys : ys.set k (bv false) = ys1 at *
              have RR3 : wv.ownsRow w.heap.size 3 1 (.slice (some ⟨w.heap.size, 0, none⟩) n n) n ys1 := by rw [← hys]; exact RR2.1
              obtain ⟨_, hreg4, B4⟩ := RR2
              clear RR hys
              go_loopw [10] (fun i wr => ∃ (k : Nat) (zs : List Value), k ≤ n ∧ (o = false → k = 0) ∧ i = .int .i64 k ∧ wr.ownsRow w.heap.size 3 1 (.slice (some ⟨w.heap.size, 0, none⟩) n n) n zs ∧
                  RegIs zs n (fun j => if j < k then (shF n f j ^^ t j) else shF n f j) ∧ Below w.heap.size w wr) (fun i _ => n - (intOf i).toNat)
              case atStart => exact ⟨0, ys1, by omega, fun _ => rfl, rfl, RR3, hreg4.congr (by intro j hj; simp), B4⟩
              case round =>
                clear RR3 hreg4 B4
                obtain ⟨m, zs, hm, hzero, rfl, hown, hreg, B4⟩ := hrel
                by_cases ho1 : o = true
                · have hO1 : (O == 1) = true := by rw [HOO.out.2, ho1]; rfl
                  by_cases hlt3 : m < n
                  · have hc : wr.cell? ⟨w.heap.size, m, none⟩ = some (.int .i64 ((shF n f m).toNat : Int)) := by
                      rw [hown.cellAt m (by omega), hreg.2 m (by omega)]; exact congrArg (fun b => some (bv b)) (if_neg (by omega))
                    have ht : wr.cell? ⟨tb, m, none⟩ = some (.int .i64 ((t m).toNat : Int)) := by
                      rw [(own_keepS HT.out B4).cellAt m (by omega)]; exact HXT.out.2 m hlt3
                    have hf := hown.frozenAt m
                    have hst := hown.stored m (bv (shF n f m ^^ t m))
                    have RR := Lib.hid (And.intro hst.1 (And.intro (hreg.set (g := fun j => if j < m + 1 then (shF n f j ^^ t j) else shF n f j) m (shF n f m ^^ t m) (by omega) (by simp) (by
                      intro j hj hne
                      by_cases c : j < m
                      · simp only [if_pos c, if_pos (show j < m + 1 by omega)]
                      · simp only [if_neg c, if_neg (show ¬ j < m + 1 by omega)])) (B4.setCell (p := ⟨w.heap.size, m, none⟩) (by simp) (bv (shF n f m ^^ t m)))))
                    have hsum := bit_sum (shF n f m) (t m)
                    have q1 := bit_le (shF n f m)
                    have q2 := bit_le (t m)
                    clear hst hown hreg B4 hzero
                    unfold bv at RR
                    generalize (shF n f m ^^ t m) = p at *
                    go_wp2_with fail
                    go_region
                    go_wp2
                    go_roundw
                    case rel => exact ⟨m + 1, _, by omega, (fun h => absurd (h.symm.trans ho1) (by simp)), by go_num, RR.out.1, RR.out.2.1, RR.out.2.2.drew⟩
                    case measure => simp [intOf]; omega
                  · have hfin : RegIs zs n ((ls.take (i + 1)).foldl (stF n t) (fun _ => true)) := by
                      rw [HNX.out]
                      refine hreg.congr (fun j hj => ?_)
                      unfold stF
                      rw [HOO.out.1, if_pos ho1, if_pos (by omega)]
                    have RR := Lib.hid (And.intro hown (And.intro hfin B4))
                    clear hown hreg hfin B4 hzero
                    go_wp2
                    go_roundw
                    case rel => exact ⟨i + 1, zs, by omega, by go_num, RR.out.1, RR.out.2.1, RR.out.2.2⟩
                    case measure => simp [intOf]; omega
                · have ho2 : o = false := by simpa using ho1
                  have hO1 : (O == 1) = false := by rw [HOO.out.2, ho2]; rfl
                  obtain rfl : m = 0 := hzero ho2
                  have hn0 : (0 : Int) < n := by omega
                  have hfin : RegIs zs n ((ls.take (i + 1)).foldl (stF n t) (fun _ => true)) := by
                    rw [HNX.out]
                    refine hreg.congr (fun j hj => ?_)
                    unfold stF
                    rw [HOO.out.1, if_neg ho1, if_neg (by omega)]
                  have RR := Lib.hid (And.intro hown (And.intro hfin B4))
                  clear hown hreg hfin B4 hzero
                  go_wp2
                  go_roundw
                  case rel => exact ⟨i + 1, zs, by omega, by go_num, RR.out.1, RR.out.2.1, RR.out.2.2⟩
                  case measure => simp [intOf]; omega
        · have hiL : i = L := by omega
          have hfin : RegIs xs n (ls.foldl (stF n t) (fun _ => true)) := by
            rw [hiL, ← hL, List.take_length] at hreg
            exact hreg
          have RR := Lib.hid (And.intro hown (And.intro hfin B2))
          clear hown hreg hfin B2
          go_wp2
          go_ret
          exact ⟨xs, rfl, RR.out.1, RR.out.2.1, RR.out.2.2⟩

end Go.Proofs.YtjbhallhmnahbaaGreat
