/-
  The reference of layer 4: Get, Media.
-/
import Derived.Test.YtphaaebbofgdnaaLnK
import Derived.Test.YtphaaebbofgdnaaLnI
namespace Go.Proofs.Ytphaaebbofgdnaa
open Go.RowKit

theorem cat_size (ns : List Nat) : (ByteArray.mk (catL ns).toArray).size = 8 * ns.length := by rw [size_is, catL_length]
theorem loadP_err {D : DevS} {z : Int} (h : reachE D (decide (0 ≤ z ∧ z < 8 * D.n)) ≠ 0) : loadP D z = (0, reachE D (decide (0 ≤ z ∧ z < 8 * D.n))) := by unfold loadP; rw [if_pos h]
theorem loadP_ok {D : DevS} {i : Nat} (ho : D.off = false) (hi : i < 8 * D.n) : loadP D (i : Int) = ((loadV D i : Int), 0) := by
  unfold loadP
  rw [if_neg (by rw [decide_eq_true (show 0 ≤ (i : Int) ∧ (i : Int) < 8 * D.n by omega)]; unfold reachE; rw [ho]; simp), Int.toNat_natCast]
set_option maxRecDepth 20000 in
set_option maxHeartbeats 2000000 in
theorem rget4_err (r : RefA) (D : DevS) (z : Int) (w : World) (h : RefIs w r D) (he : reachE D (isLine D z) ≠ 0) :
    Calls Try.prog 37 #[.pointer (some ⟨r.rd, 0, none⟩), .int .i64 z] w fun e w' => e = .returned (.tuple #[.string ⟨#[]⟩, .int .i64 (reachE D (isLine D z))]) ∧ Gr [] w w' := by
  have c4 := h.c4
  cases ho : D.off with
  | true =>
    have hr : ∀ t, reachE D t = 6 := fun t => by unfold reachE; rw [ho]; rfl
    have HL := Lib.hid (show ∀ x : Int, Calls Try.prog 47 #[.pointer (some ⟨r.rd, 0, none⟩), .int .i64 x] w fun e w' => e = .returned (.tuple #[.int .u64 0, .int .i64 6]) ∧ w = w' from fun x => by
      have q := ref_load x h
      rw [loadP_err (by rw [hr]; omega), hr] at q
      exact q)
    rw [hr]
    rw [ho] at c4
    clear h he ho hr
    go_enter Try.func37, Try.ntmps37
    go_wp2_with fail
    refine wp_loop_rounds 1 ?_
    rw [rounds_succ]
    go_wp2_with fail
    refine (HL.out _).mono ?_
    rintro e w' ⟨rfl, rfl⟩
    go_wp2_with fail
    go_ret2
    exact ⟨rfl, Gr.refl _ _⟩
  | false =>
    have hl : isLine D z = false := by
      cases hq : isLine D z with
      | false => rfl
      | true => rw [hq] at he; unfold reachE at he; rw [ho] at he; simp at he
    have hz : ¬ (0 ≤ z ∧ z < D.n) := by unfold isLine at hl; exact of_decide_eq_false hl
    have hr : reachE D (isLine D z) = 3 := by rw [hl]; unfold reachE; rw [ho]; rfl
    have c1 := h.c1
    have hn := h.hi
    have hds : decide (z < 0) = true ∨ (decide (z < 0) = false ∧ decide ((D.n : Int) ≤ z) = true) := by
      by_cases h0 : z < 0
      · exact .inl (by simpa using h0)
      · exact .inr ⟨by simpa using h0, by simp; omega⟩
    rw [hr]
    rw [ho] at c4
    clear h he ho hl hz hr
    generalize D.n = n at *
    rcases hds with d1 | ⟨d1, d2⟩
    all_goals
      go_enter Try.func37, Try.ntmps37
      go_wp2_with fail
      go_ret2
      exact ⟨rfl, Gr.refl _ _⟩

set_option maxRecDepth 20000 in
set_option maxHeartbeats 2000000 in
theorem rget4_yes (r : RefA) (D : DevS) (l : Nat) (w : World) (h : RefIs w r D) (hl : l < D.n) (ho : D.off = false) (hlt8 : ∀ i, loadV D i < 18446744073709551616) :
    Calls Try.prog 37 #[.pointer (some ⟨r.rd, 0, none⟩), .int .i64 (l : Int)] w fun e w' => e = .returned (.tuple #[.string ⟨(getT D l).toArray⟩, .int .i64 0]) ∧ Gr [] w w' := by
  have c4 := h.c4
  have c1 := h.c1
  have hn := h.hi
  rw [ho] at c4
  have d1 : decide ((l : Int) < 0) = false := by simp
  have d2n : decide (D.n ≤ l) = false := by simp; omega
  have d2m : ¬ D.n ≤ l := by omega
  have hl3 : l ≤ 8192 := by omega
  obtain ⟨F, hF⟩ : ∃ F : Nat → Nat, ∀ k, F k = loadV D (8 * l + k) := ⟨fun k => loadV D (8 * l + k), fun _ => rfl⟩
  obtain ⟨ns, hns⟩ : ∃ ns : List Nat, ns = [F 0, F 1, F 2, F 3, F 4, F 5, F 6, F 7] := ⟨_, rfl⟩
  have HL := Lib.hid (show ∀ W, Gr [] w W → ∀ k : Nat, k < 8 → Calls Try.prog 47 #[.pointer (some ⟨r.rd, 0, none⟩), .int .i64 ((8 * l + k : Nat) : Int)] W fun e w' => e = .returned (.tuple #[.int .u64 (F k : Int), .int .i64 0]) ∧ W = w' from fun W g k hk => by
    have q := ref_load ((8 * l + k : Nat) : Int) (h.gr0 g)
    rw [loadP_ok ho (by omega)] at q
    rw [hF]
    exact q)
  have HFB := Lib.hid (show ∀ k, F k < 18446744073709551616 from fun k => by rw [hF]; exact hlt8 _)
  have HNS := Lib.hid (show ∀ k, k < 8 → ns[k]? = some (F k) from fun k hk => by
    rw [hns]
    rcases (show k = 0 ∨ k = 1 ∨ k = 2 ∨ k = 3 ∨ k = 4 ∨ k = 5 ∨ k = 6 ∨ k = 7 by omega) with rfl | rfl | rfl | rfl | rfl | rfl | rfl | rfl <;> rfl)
  have HNL := Lib.hid (show ns.length = 8 by rw [hns]; rfl)
  have HT := Lib.hid (show getT D l = catL ns by rw [hns]; unfold getT; rw [hF, hF, hF, hF, hF, hF, hF, hF]; rfl)
  clear h hl ho hF hns hlt8
  generalize D.n = n at *
  go_enter Try.func37, Try.ntmps37
  go_wp2_with fail
  clear c1 c4 d2n d2m
  go_loopw [6, 7] (fun u z wr => ∃ (k : Nat) (S : ByteArray), k ≤ 8 ∧ u = .string S ∧ z = .int .i64 (k : Int) ∧ S = ⟨(catL (ns.take k)).toArray⟩ ∧ Gr [] w wr) (fun _ z _ => 8 - (intOf z).toNat)
  case atStart => exact ⟨0, ⟨#[]⟩, by omega, rfl, rfl, rfl, Gr.refl _ _⟩
  case round =>
    obtain ⟨k, S, hk, rfl, rfl, hS, g⟩ := hrel
    by_cases hlt : k < 8
    · have hd : decide ((k : Int) < 8) = true := by simp; omega
      have hss : S.size = 8 * k := by rw [hS, cat_size, List.length_take, HNL.out]; omega
      have hsl : S.size ≤ 64 := by omega
      obtain ⟨x, hx⟩ : ∃ x : Nat, x = 8 * l + k := ⟨_, rfl⟩
      have hx2 : 8 * (l : Int) + (k : Int) = (x : Int) := by omega
      have HLk := Lib.hid (HL.out wr g k hlt)
      rw [← hx] at HLk
      have HPk := Lib.hid (rput_any (F k) 8 wr (HFB.out k) (by omega) (by omega))
      rw [show clamp8 8 = 8 from rfl] at HPk
      have HCat := Lib.hid (show S ++ ByteArray.mk (putL (F k) 8).toArray = ByteArray.mk (catL (ns.take (k + 1))).toArray by rw [hS]; exact catL_str ns k (F k) (HNS.out k hlt))
      have HPS := Lib.hid (show (ByteArray.mk (putL (F k) 8).toArray).size = 8 by rw [size_is, putL_length])
      have HG := Lib.hid g
      clear g hS hx hss
      generalize F k = v at *
      go_wp2_with fail
      refine HLk.out.mono ?_
      rintro e w' ⟨rfl, rfl⟩
      go_wp2_with fail
      refine HPk.out.mono ?_
      rintro e w3 ⟨rfl, q3⟩
      have HG3 := Lib.hid (HG.out.nextB q3)
      clear q3
      obtain ⟨Y, hY⟩ : ∃ Y, ByteArray.mk (putL v 8).toArray = Y := ⟨_, rfl⟩
      have hYs : Y.size = 8 := by rw [← hY]; exact HPS.out
      rw [hY] at HCat
      rw [hY]
      clear hY
      go_wp2_with fail
      go_roundw
      case rel => exact ⟨k + 1, _, by omega, rfl, by go_num, HCat.out, HG3.out⟩
      case measure => simp [intOf]; omega
    · obtain rfl : k = 8 := by omega
      have HE := Lib.hid (show S = ⟨(getT D l).toArray⟩ by rw [hS, HT.out, List.take_of_length_le (by rw [HNL.out]; omega)])
      have HG := Lib.hid g
      clear hS g
      rw [show ((8 : Nat) : Int) = 8 from rfl]
      go_wp2_with fail
      go_ret2
      rw [HE.out]
      exact ⟨rfl, HG.out⟩

/-! ### Media -/
def medT (D : DevS) (l : Nat) : List UInt8 := catL [D.med (8 * l), D.med (8 * l + 1), D.med (8 * l + 2), D.med (8 * l + 3), D.med (8 * l + 4), D.med (8 * l + 5), D.med (8 * l + 6), D.med (8 * l + 7)]
theorem RefIs.wm {W : World} {r : RefA} {D : DevS} (h : RefIs W r D) {i : Nat} (hi : i < 8 * D.n) : W.cell? ⟨r.rw, i * 4, none⟩ = some (.int .u64 (D.med i : Int)) := by
  obtain ⟨R, h1, h2⟩ := h
  rw [← h2.med i hi]
  exact h1.wm (by rw [h2.n]; exact hi)
set_option maxRecDepth 20000 in
set_option maxHeartbeats 2000000 in
theorem rmedia4_any (r : RefA) (D : DevS) (l : Nat) (w : World) (h : RefIs w r D) (hl : l < D.n) (hlt8 : ∀ i, D.med i < 18446744073709551616) :
    Calls Try.prog 39 #[.pointer (some ⟨r.rd, 0, none⟩), .int .i64 (l : Int)] w fun e w' => e = .returned (.string ⟨(medT D l).toArray⟩) ∧ Gr [] w w' := by
  have hn := h.hi
  have hl3 : l ≤ 8192 := by omega
  obtain ⟨F, hF⟩ : ∃ F : Nat → Nat, ∀ k, F k = D.med (8 * l + k) := ⟨fun k => D.med (8 * l + k), fun _ => rfl⟩
  obtain ⟨ns, hns⟩ : ∃ ns : List Nat, ns = [F 0, F 1, F 2, F 3, F 4, F 5, F 6, F 7] := ⟨_, rfl⟩
  have HFB := Lib.hid (show ∀ k, F k < 18446744073709551616 from fun k => by rw [hF]; exact hlt8 _)
  have HNS := Lib.hid (show ∀ k, k < 8 → ns[k]? = some (F k) from fun k hk => by
    rw [hns]
    rcases (show k = 0 ∨ k = 1 ∨ k = 2 ∨ k = 3 ∨ k = 4 ∨ k = 5 ∨ k = 6 ∨ k = 7 by omega) with rfl | rfl | rfl | rfl | rfl | rfl | rfl | rfl <;> rfl)
  have HNL := Lib.hid (show ns.length = 8 by rw [hns]; rfl)
  have HT := Lib.hid (show medT D l = catL ns by rw [hns]; unfold medT; rw [hF, hF, hF, hF, hF, hF, hF, hF]; rfl)
  have H := Lib.hid (And.intro h hl)
  have HF := Lib.hid hF
  clear h hns hlt8 hF
  go_enter Try.func39, Try.ntmps39
  go_wp2_with fail
  go_loopw [5, 6] (fun u z wr => ∃ (k : Nat) (S : ByteArray), k ≤ 8 ∧ u = .string S ∧ z = .int .i64 (k : Int) ∧ S = ⟨(catL (ns.take k)).toArray⟩ ∧ Gr [] w wr) (fun _ z _ => 8 - (intOf z).toNat)
  case atStart => exact ⟨0, ⟨#[]⟩, by omega, rfl, rfl, rfl, Gr.refl _ _⟩
  case round =>
    obtain ⟨k, S, hk, rfl, rfl, hS, g⟩ := hrel
    by_cases hlt : k < 8
    · have hd : decide ((k : Int) < 8) = true := by simp; omega
      have hss : S.size = 8 * k := by rw [hS, cat_size, List.length_take, HNL.out]; omega
      have hsl : S.size ≤ 64 := by omega
      obtain ⟨x, hx⟩ : ∃ x : Nat, x = 8 * l + k := ⟨_, rfl⟩
      have hx2 : 8 * (l : Int) + (k : Int) = (x : Int) := by omega
      have hxn : x < 8 * D.n := by have := H.out.2; omega
      have hxi : (x : Int) < 8 * (D.n : Int) := by omega
      have hx0 : (0 : Int) ≤ (x : Int) := by omega
      have c0 := (H.out.1.gr0 g).c0
      have m0 := (H.out.1.gr0 g).wm hxn
      rw [show D.med x = F k by rw [HF.out, hx]] at m0
      have HPk := Lib.hid (rput_any (F k) 8 wr (HFB.out k) (by omega) (by omega))
      rw [show clamp8 8 = 8 from rfl] at HPk
      have HCat := Lib.hid (show S ++ ByteArray.mk (putL (F k) 8).toArray = ByteArray.mk (catL (ns.take (k + 1))).toArray by rw [hS]; exact catL_str ns k (F k) (HNS.out k hlt))
      have HPS := Lib.hid (show (ByteArray.mk (putL (F k) 8).toArray).size = 8 by rw [size_is, putL_length])
      have HG := Lib.hid g
      clear g hS hx hss
      generalize F k = v at *
      generalize D.n = n at *
      go_wp2_with fail
      refine HPk.out.mono ?_
      rintro e w3 ⟨rfl, q3⟩
      have HG3 := Lib.hid (HG.out.nextB q3)
      clear q3
      obtain ⟨Y, hY⟩ : ∃ Y, ByteArray.mk (putL v 8).toArray = Y := ⟨_, rfl⟩
      have hYs : Y.size = 8 := by rw [← hY]; exact HPS.out
      rw [hY] at HCat
      rw [hY]
      clear hY
      go_wp2_with fail
      go_roundw
      case rel => exact ⟨k + 1, _, by omega, rfl, by go_num, HCat.out, HG3.out⟩
      case measure => simp [intOf]; omega
    · obtain rfl : k = 8 := by omega
      have HE := Lib.hid (show S = ⟨(medT D l).toArray⟩ by rw [hS, HT.out, List.take_of_length_le (by rw [HNL.out]; omega)])
      have HG := Lib.hid g
      clear hS g
      rw [show ((8 : Nat) : Int) = 8 from rfl]
      go_wp2_with fail
      go_ret
      rw [HE.out]
      exact ⟨rfl, HG.out⟩

end Go.Proofs.Ytphaaebbofgdnaa
