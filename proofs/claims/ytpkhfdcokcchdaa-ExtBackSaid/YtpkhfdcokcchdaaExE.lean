/-
  Layer 15: slices.Grow (laid; numbers of seat D: for another seat print anew by wip/gen/saylay.py) and slices.Concat.
-/
import Derived.Test.YtpkhfdcokcchdaaExA
import Derived.Shelf.Spec.SlicesGrow
namespace Go.Proofs.Ytpkhfdcokcchdaa
open Go.RowKit Go.Shelf

def ExE.grow_ren : Go.Shelf.Ren := ⟨fun | 4 => 132 | n => n, fun | 22 => 82 | 25 => 35 | 3 => 3 | 4 => 4 | 9 => 9 | 20 => 20 | 0 => 0 | 2 => 3 | n => n, fun | n => n⟩
theorem ExE.grow : Go.Proofs.Lays8.n4 Try.prog ExE.grow_ren where
  mixed := by kernel_rfl
  f4 := ⟨ "slices.Grow[gabion/ext.List,gabion/alloc.Extent]", by decide, Try.func132.trans (congrArg some (by kernel_rfl))⟩
  t0 := Try.underlying0
  a0 := Try.isAgg0
  z0 := Try.sizeOf0
  v0 := Try.zeroValue0
  t3 := Try.underlying3
  a3 := Try.isAgg3
  z3 := Try.sizeOf3
  v3 := Try.zeroValue3
  t4 := Try.underlying4
  a4 := Try.isAgg4
  z4 := Try.sizeOf4
  v4 := Try.zeroValue4
  t9 := Try.underlying9
  a9 := Try.isAgg9
  z9 := Try.sizeOf9
  v9 := Try.zeroValue9
  t20 := Try.underlying20
  a20 := Try.isAgg20
  z20 := Try.sizeOf20
  v20 := Try.zeroValue20
  t22 := Try.underlying82
  a22 := Try.isAgg82
  z22 := Try.sizeOf82
  v22 := Try.zeroValue82

theorem egrow_any (n : Nat) (w : World) (hn : n ≤ 1000000) :
    Calls Try.prog 132 #[.slice none 0 0, .int .i64 n] w fun e w' => ∃ v, e = .returned v ∧ w'.ownsRow w.heap.size 35 2 v 0 [] ∧ Gr [] w w' := by
  by_cases h0 : n = 0
  · subst h0
    refine (Any8.slices_Grow_room ExE.grow none 0 0 0 w (by omega) (by omega) (by omega) (by omega)).mono ?_
    rintro e w' ⟨rfl, rfl⟩
    exact ⟨_, rfl, World.ownsRow_nil _ _ _ _, Gr.refl _ _⟩
  · obtain ⟨i0, hi, hz0, hz1, hz2⟩ := info_parts infoExt
    refine (Any8.slices_Grow_grow ExE.grow i0 _ hi hz0 (by omega) none 0 0 n [] w (by omega) (by omega) (by rw [hz2]; omega) (by omega) (by simp) (fun _ => rfl) (fun a ha => by cases ha)).mono ?_
    rintro e w' ⟨rfl, rfl⟩
    have hge : n ≤ grownCap w (0 + n) 0 35 := by have := grownCap_ge w (0 + n) 0 35; omega
    have hle := grownCap_le_maxLen w (0 + n) 0 35 (by unfold maxLen; omega)
    refine ⟨_, rfl, World.ownsRow_made (base := w.heap.size) (size := 2) w.drew _ _ (Nat.le_refl _) hle ?_, (Gr.refl [] w).drew.alloc _⟩
    have hz : ∀ k, (Builtin.zeroCells (Value.cells (.agg #[.int .i64 0, .int .i64 0])) k).size = k * 2 := fun k => by
      simp [Builtin.zeroCells, Value.cells]
    rw [Array.size_append, Array.size_append, hz, hz]
    show 0 + (0 + n - 0) * 2 + (grownCap w (0 + n) 0 35 - (0 + n)) * 2 = grownCap w (0 + n) 0 35 * 2
    omega

set_option maxRecDepth 20000 in
set_option maxHeartbeats 2000000 in
theorem econcat_any (LL : List (Option Addr × Nat × List (Int × Int))) (bb cp : Nat) (w : World) (h : CatIn LL bb w) (hL : LL.length ≤ 100) (hS : (catP LL).length ≤ 1000000) :
    Calls Try.prog 116 #[.slice (some ⟨bb, 0, none⟩) LL.length cp] w fun e w' => ∃ v, e = .returned v ∧ w'.ownsRow w.heap.size 35 2 v (catP LL).length (cells2 (catP LL)) ∧ Gr [] w w' := by
  obtain ⟨i0, hi, hz0, hz1, hz2⟩ := info_parts infoExt
  have H := Lib.hid h
  have HS := Lib.hid hS
  clear h hS
  obtain ⟨n, hn⟩ : ∃ n, n = LL.length := ⟨_, rfl⟩
  rw [← hn] at hL ⊢
  have HN := Lib.hid hn
  clear hn
  have HG := Lib.hid egrow_any
  go_enter Try.func116, Try.ntmps116
  go_wp2_with fail
  go_loopw [3, 11] (fun s i wr => ∃ k : Nat, k ≤ n ∧ s = .int .i64 ((catP (LL.take k)).length : Nat) ∧ i = .int .i64 k ∧ w = wr) (fun _ i _ => n - (intOf i).toNat)
  case atStart => exact ⟨0, by omega, by simp [catP], rfl, rfl⟩
  case round =>
    obtain ⟨k, hk, rfl, rfl, rfl⟩ := hrel
    by_cases hlt : k < n
    · obtain ⟨x, hx⟩ : ∃ x, LL[k]? = some x := ⟨_, List.getElem?_eq_getElem (by have := HN.out; omega)⟩
      have c1 := H.out.cell k x hx
      have q := catP_succ LL k x hx
      have q1 := catP_len_take LL (k + 1)
      have q2 := HS.out
      have q3 : (catP (LL.take (k + 1))).length = (catP (LL.take k)).length + x.2.2.length := by rw [q, List.length_append]
      have HE := Lib.hid q3
      obtain ⟨m, hm⟩ : ∃ m, m = (catP (LL.take k)).length := ⟨_, rfl⟩
      obtain ⟨m2, hm2⟩ : ∃ m2, m2 = x.2.2.length := ⟨_, rfl⟩
      rw [← hm, ← hm2] at q3 HE
      rw [← hm2] at c1
      rw [← hm]
      have b1 : m + m2 ≤ 1000000 := by omega
      clear q q1 q2 q3 hx hm hm2
      go_wp2
      go_roundw
      case rel => exact ⟨k + 1, by omega, by rw [HE.out]; go_num, by go_num, by first | rfl | trivial⟩
      case measure => simp [intOf]; omega
    · obtain rfl : k = n := by omega
      have HE := Lib.hid (show catP (LL.take k) = catP LL by rw [HN.out, List.take_length])
      rw [HE.out]
      obtain ⟨m, hm⟩ : ∃ m, m = (catP LL).length := ⟨_, rfl⟩
      rw [← hm]
      have b1 : m ≤ 1000000 := by rw [hm]; exact HS.out
      have HM := Lib.hid hm
      clear hm
      go_wp2_with fail
      refine (HG.out m _ b1).mono ?_
      rintro e w1 ⟨v, rfl, ho, g⟩
      have HO := Lib.hid (And.intro ho g)
      clear ho g
      go_wp2_with fail
      go_loopw [6, 27] (fun s i wa => ∃ k' : Nat, k' ≤ k ∧ i = .int .i64 k' ∧ wa.ownsRow w.heap.size 35 2 s (catP (LL.take k')).length (cells2 (catP (LL.take k'))) ∧ Gr [] w wa) (fun _ i _ => k - (intOf i).toNat)
      case atStart => exact ⟨0, by omega, rfl, by simpa [catP, cells2] using HO.out.1, HO.out.2⟩
      case round =>
        obtain ⟨k', hk', rfl, ho, g⟩ := hrel
        have HO := Lib.hid (And.intro ho g)
        clear ho g
        by_cases hlt : k' < k
        · obtain ⟨x, hx⟩ : ∃ x, LL[k']? = some x := ⟨_, List.getElem?_eq_getElem (by have := HN.out; omega)⟩
          have c1 := (H.out.gr0 HO.out.2).cell k' x hx
          have q := catP_succ LL k' x hx
          have q1 := catP_len_take LL (k' + 1)
          have q3 : (catP (LL.take (k' + 1))).length = (catP (LL.take k')).length + x.2.2.length := by rw [q, List.length_append]
          have hb1 : (catP (LL.take k')).length + x.2.2.length ≤ 1000000 := by have := HM.out; omega
          have hrd := (H.out.gr0 HO.out.2).rd x (List.mem_of_getElem? hx)
          have hcap := H.out.cap x (List.mem_of_getElem? hx)
          have HE := Lib.hid q
          have HB := Lib.hid hb1
          obtain ⟨xa, xc, xl⟩ := x
          simp only at c1 hrd hcap
          clear q q1 q3 hb1 hx
          cases xa with
          | none =>
            obtain rfl := hcap.2 rfl
            have h0 : xl = [] := List.length_eq_zero_iff.1 (by omega)
            subst h0
            have c2 : wr.cell? ⟨bb, k', none⟩ = some (.slice none 0 0) := c1
            clear c1 hrd hcap
            go_wp2_with (at_builtin; refine wpList_append_own_none rfl _ _ 82 rfl w.heap.size 35 i0 2 Try.underlying82 hi _ _ _ rfl HO.out.1 rfl ?_)
            have HF := Lib.hid (show catP (LL.take (k' + 1)) = catP (LL.take k') by have := HE.out; simp only [List.append_nil] at this; exact this)
            go_roundw
            case rel => exact ⟨k' + 1, by omega, by go_num, by rw [HF.out]; exact HO.out.1, HO.out.2⟩
            case measure => simp [intOf]; omega
          | some a =>
            have HR := Lib.hid (And.intro (hrd.cells rfl) (And.intro (cells2_len xl) (cells2_one xl)))
            obtain ⟨m2, hm2⟩ : ∃ m2, m2 = xl.length := ⟨_, rfl⟩
            rw [← hm2] at c1 HR HB
            have HM2 := Lib.hid hm2
            clear hrd hcap hm2
            go_wp2_with (at_builtin; refine wpList_append_own _ rfl _ _ 82 rfl w.heap.size 35 i0 _ 2 16 Try.underlying82 hi hz0 hz1 hz2 rfl (by decide) _ _ _ rfl HO.out.1 a m2 _ (cells2 xl) rfl HR.out.2.1 HR.out.1 HR.out.2.2 (by have := HB.out; unfold maxLen; omega) (by have := HB.out; omega) HO.out.2.size ?_)
            intro v' w1 hown' hgrow _
            have hlt2 := HO.out.1.lt
            have HF := Lib.hid (show w1.ownsRow w.heap.size 35 2 v' (catP (LL.take (k' + 1))).length (cells2 (catP (LL.take (k' + 1)))) ∧ Gr [] w w1 by
              refine ⟨?_, HO.out.2.grown hgrow (fun j hj => .inr (hlt2 j hj).1)⟩
              rw [HE.out, cells2_append, List.length_append]
              show w1.ownsRow _ _ _ _ (_ + xl.length) _
              rw [← HM2.out]
              exact hown')
            clear hown' hgrow hlt2
            go_wp2
            go_roundw
            case rel => exact ⟨k' + 1, by omega, by go_num, HF.out.1, HF.out.2⟩
            case measure => simp [intOf]; omega
        · obtain rfl : k' = k := by omega
          have HE2 := Lib.hid (show catP (LL.take k') = catP LL by rw [HN.out, List.take_length])
          go_wp2_with fail
          go_ret
          exact ⟨_, rfl, by rw [← HE2.out, HM.out, ← HE2.out]; exact HO.out.1, HO.out.2⟩

theorem econcat_is (LL : List (Option Addr × Nat × List (Int × Int))) (RL : List (Int × Int)) (m bb cp : Nat) (w : World) (hR : catP LL = RL) (hm : m = RL.length) (h : CatIn LL bb w) (hL : LL.length ≤ 100) (hS : m ≤ 1000000) :
    Calls Try.prog 116 #[.slice (some ⟨bb, 0, none⟩) LL.length cp] w fun e w' => ∃ ao cap, e = .returned (.slice ao m cap) ∧ Rd2 w' ao RL ∧ Gr [] w w' := by
  refine (econcat_any LL bb cp w h hL (by rw [hR, ← hm]; exact hS)).mono ?_
  rintro e w' ⟨v, rfl, ho, g⟩
  rw [hR, ← hm] at ho
  obtain ⟨ao, cap, rfl⟩ := own_form ho
  obtain ⟨a', c', hv, hr, -⟩ := own_sl2 ho
  injection hv with q1 q2 q3
  subst q1
  exact ⟨_, _, rfl, hr, g⟩

end Go.Proofs.Ytpkhfdcokcchdaa
