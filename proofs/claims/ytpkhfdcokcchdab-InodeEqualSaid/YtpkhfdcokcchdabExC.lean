/-
  Layer 15: the document's answer: joins, Right, Blocks, Runs.
-/
import Derived.Test.YtpkhfdcokcchdabExB
import Derived.Test.YtpkhfdcokcchdabExPq
namespace Go.Proofs.Ytpkhfdcokcchdab
open Go.RowKit

theorem rjoins_any (a1 a2 b1 b2 : Int) (w : World) (h : IntKind.i64.wrap (a1 + a2) = a1 + a2) :
    Calls Try.prog 51 #[.agg #[.int .i64 a1, .int .i64 a2], .agg #[.int .i64 b1, .int .i64 b2]] w fun e w' => e = .returned (.bool (mrg (a1, a2) (b1, b2))) ∧ Gr [] w w' := by
  have HG := Lib.hid (((Gr.refl [] w).alloc (Obj.cells #[.int .i64 a1, .int .i64 a2] 46)).alloc (Obj.cells #[.int .i64 b1, .int .i64 b2] 46))
  by_cases h1 : a1 = -1
  · have d1 : (a1 == -1) = true := by simpa using h1
    by_cases h2 : b1 = -1
    · have d2 : (b1 == -1) = true := by simpa using h2
      have HM := Lib.hid (show mrg (a1, a2) (b1, b2) = true by unfold mrg; rw [if_pos (.inl h1)]; simp [h1, h2])
      clear h1 h2
      go_enter Try.func51, Try.ntmps51
      go_wp2_with fail
      go_ret
      exact ⟨by rw [HM.out]; rfl, HG.out⟩
    · have d2 : (b1 == -1) = false := by simpa using h2
      have HM := Lib.hid (show mrg (a1, a2) (b1, b2) = false by unfold mrg; rw [if_pos (.inl h1)]; simp [h1]; omega)
      clear h1 h2
      go_enter Try.func51, Try.ntmps51
      go_wp2_with fail
      go_ret
      exact ⟨by rw [HM.out]; rfl, HG.out⟩
  · have d1 : (a1 == -1) = false := by simpa using h1
    by_cases h2 : b1 = -1
    · have d2 : (b1 == -1) = true := by simpa using h2
      have HM := Lib.hid (show mrg (a1, a2) (b1, b2) = false by unfold mrg; rw [if_pos (.inr h2)]; simp [h2]; omega)
      clear h1 h2
      go_enter Try.func51, Try.ntmps51
      go_wp2_with fail
      go_ret
      exact ⟨by rw [HM.out]; rfl, HG.out⟩
    · have d2 : (b1 == -1) = false := by simpa using h2
      have HM := Lib.hid (show mrg (a1, a2) (b1, b2) = (a1 + a2 == b1) by unfold mrg; rw [if_neg (fun q => q.elim h1 h2)]; rfl)
      clear h1 h2
      go_enter Try.func51, Try.ntmps51
      go_wp2_with fail
      go_ret
      exact ⟨by rw [HM.out]; rfl, HG.out⟩

set_option maxHeartbeats 4000000 in
set_option maxRecDepth 20000 in
theorem rright15_any (l : List (Int × Int)) (L : Nat) (ao : Option Addr) (cap : Nat) (w : World) (h : Rd2 w ao l) (hL : L = l.length) :
    Calls Try.prog 36 #[.slice ao L cap] w fun e w' => (∃ b : Bool, (b = true ↔ Right15 l) ∧ e = .returned (.bool b)) ∧ Gr [] w w' := by
  have HR := Lib.hid h
  have HL := Lib.hid hL
  have HG := Lib.hid (Gr.refl [] w)
  clear h hL
  by_cases h64 : 64 < L
  · have d1 : decide ((64 : Int) < (L : Int)) = true := by simp; omega
    have HF := Lib.hid (show ¬ Right15 l from fun q => by have := q.1; have := HL.out; omega)
    go_enter Try.func36, Try.ntmps36
    go_wp2_with fail
    go_ret
    exact ⟨⟨false, ⟨fun q => by (cases q), fun q => absurd q HF.out⟩, rfl⟩, HG.out⟩
  · have d1 : decide ((64 : Int) < (L : Int)) = false := by simp; omega
    have hL64 : L ≤ 64 := by omega
    go_enter Try.func36, Try.ntmps36
    go_wp2_with fail
    clear d1 h64
    go_loopw [3, 4] (fun s i wr => ∃ k : Nat, k ≤ L ∧ i = .int .i64 k ∧ s = .int .i64 (sumZ (l.take k)) ∧ Hid (okK l k) ∧ Gr [] w wr) (fun _ i _ => L - (intOf i).toNat)
    case atStart => exact ⟨0, by omega, rfl, rfl, Lib.hid (okK_zero l), HG.out⟩
    case round =>
      clear HG
      obtain ⟨k, hk, rfl, rfl, HOK, G⟩ := hrel
      have hsb := sumZ_bound HOK.out
      by_cases hkL : k < L
      · have hkL2 : (k : Int) < (L : Int) := by omega
        obtain ⟨⟨e1, e2⟩, he⟩ : ∃ e, l[k]? = some e := ⟨_, List.getElem?_eq_getElem (by have := HL.out; omega)⟩
        obtain ⟨b, o, hao, hb, x0, x1⟩ := HR.out k _ he
        have y0 : wr.cell? ⟨b, o + k * 2, none⟩ = some (.int .i64 e1) := (G.cell0 hb).trans x0
        have y1 : wr.cell? ⟨b, o + k * 2 + 1, none⟩ = some (.int .i64 e2) := (G.cell0 hb).trans x1
        have HEE := Lib.hid he
        have HGA := Lib.hid G
        obtain ⟨s1, hs1⟩ : ∃ s1, s1 = sumZ (l.take k) := ⟨_, rfl⟩
        rw [← hs1] at hsb ⊢
        have HS1 := Lib.hid hs1
        subst hao
        clear x0 x1 G he hs1
        by_cases hbad : -1 ≤ e1 ∧ e1 ≤ 65536 ∧ 1 ≤ e2 ∧ e2 ≤ 65536
        · have d1 : decide (e2 < 1) = false := decide_eq_false (by omega)
          have d2 : decide (65536 < e2) = false := decide_eq_false (by omega)
          have d3 : decide (e1 < -1) = false := decide_eq_false (by omega)
          have d4 : decide (65536 < e1) = false := decide_eq_false (by omega)
          have hsum : sumZ (l.take (k + 1)) = s1 + e2 := by rw [sumZ_take HEE.out, HS1.out]
          have HSUM := Lib.hid hsum
          have HBD := Lib.hid hbad
          have hw : IntKind.i64.wrap (s1 + e2) = s1 + e2 := IntWalk.i64_in _ (by
            have q1 := hsb.1
            have q2 := hsb.2
            have : (65536 : Int) * (k : Int) ≤ 65536 * 64 := by omega
            omega)
          clear hsum
          by_cases hk0 : k = 0
          · subst hk0
            rw [Nat.zero_mul, Nat.add_zero] at y0 y1
            have HOK2 := Lib.hid (okK_one HEE.out HBD.out)
            clear hbad hsb
            go_wp2_with fail
            go_roundw
            case rel => exact ⟨1, by omega, rfl, by rw [HSUM.out], HOK2, HGA.out⟩
            case measure => simp [intOf]; omega
          · obtain ⟨j, hj⟩ : ∃ j, j + 1 = k := ⟨k - 1, by omega⟩
            obtain ⟨⟨p1, p2⟩, hp⟩ : ∃ p, l[j]? = some p := ⟨_, List.getElem?_eq_getElem (by have := HL.out; omega)⟩
            obtain ⟨b', o', hao', hb', v0, v1⟩ := HR.out j _ hp
            injection hao' with hao'
            injection hao' with q1 q2
            subst q1 q2
            have hpm : -1 ≤ p1 ∧ p1 ≤ 65536 ∧ 1 ≤ p2 ∧ p2 ≤ 65536 := HOK.out.1 (p1, p2) (by
              obtain ⟨c1, c2⟩ := List.getElem?_eq_some_iff.1 hp
              rw [← hj, List.take_succ_eq_append_getElem c1, c2]
              exact List.mem_append.2 (.inr (List.mem_singleton.2 rfl)))
            have hj2 : (k : Int) - 1 = (j : Int) := by omega
            have hk1 : (0 : Int) < (k : Int) := by omega
            have hjL : j < L := by omega
            have dk : decide (0 < k) = true := decide_eq_true (by omega)
            have hj3 : IntKind.i64.wrap (j : Int) = (j : Int) := IntWalk.i64_in _ (by omega)
            have hj4 : (0 : Int) ≤ (j : Int) := by omega
            have hj5 : (j : Int) < (L : Int) := by omega
            have hk6 : (0 : Int) ≤ (k : Int) := by omega
            have HJ := Lib.hid hj
            have hstep := okK_step hp (by rw [hj]; exact HEE.out) (by rw [hj]; exact HOK.out) HBD.out
            rw [show j + 2 = k + 1 by omega] at hstep
            have HST := Lib.hid hstep
            obtain ⟨m, hm⟩ : ∃ m, m = mrg (p1, p2) (e1, e2) := ⟨_, rfl⟩
            rw [← hm] at HST
            have u0 := kp_cell ((HGA.out.cell0 hb').trans v0)
            have u1 := kp_cell ((HGA.out.cell0 hb').trans v1)
            have k0 := kp_cell y0
            have k1 := kp_cell y1
            have hne := kp_ne wr
            have P1 := Lib.hid (fun x : Cls (Kp wr) => kcall_of (rjoins_any p1 p2 e1 e2 x.w (IntWalk.i64_in _ (by omega))))
            rw [← hm] at P1
            clear hm hj hstep hbad hsb v0 v1 hp hpm
            go_wp2_with fail
            cases m with
            | true =>
              refine wp_region_kp (by kernel_rfl) (by kernel_rfl) ?_
              repeat (go_big_quiet_step ((rename_i x; with_reducible exact kp_call x (P1.out x))))
              with_reducible refine wpQuiet_nil ?_
              rintro _ ⟨y, rfl⟩
              have HGY := Lib.hid (HGA.out.nextB y.h)
              have HNO := Lib.hid (show ¬ Right15 l from fun q => by
                have := HST.out.1 (okK_le q.2.1 (by have := HL.out; omega))
                cases this)
              clear k0 k1 u0 u1 hne P1
              generalize y.w = wy at *
              clear y
              go_wp2_with fail
              go_ret
              exact ⟨⟨false, ⟨fun q => by (cases q), fun q => absurd q HNO.out⟩, rfl⟩, HGY.out⟩
            | false =>
              refine wp_region_kp (by kernel_rfl) (by kernel_rfl) ?_
              repeat (go_big_quiet_step ((rename_i x; with_reducible exact kp_call x (P1.out x))))
              with_reducible refine wpQuiet_nil ?_
              rintro _ ⟨y, rfl⟩
              have HGY := Lib.hid (HGA.out.nextB y.h)
              have y1 := k1 y
              clear k0 k1 u0 u1 hne P1 y0
              generalize y.w = wy at *
              clear y
              go_wp2_with fail
              go_roundw
              case rel => exact ⟨k + 1, by omega, by go_num, by rw [HSUM.out], Lib.hid (HST.out.2 rfl), HGY.out⟩
              case measure => simp [intOf]; omega
        · have HNO := Lib.hid (bad_entry HEE.out hbad)
          have hcase : e1 < -1 ∨ (¬ e1 < -1 ∧ 65536 < e1) ∨ (¬ e1 < -1 ∧ ¬ 65536 < e1 ∧ e2 < 1) ∨ (¬ e1 < -1 ∧ ¬ 65536 < e1 ∧ ¬ e2 < 1 ∧ 65536 < e2) := by omega
          clear hbad hsb
          rcases hcase with q | ⟨q, r⟩ | ⟨q, r, s⟩ | ⟨q, r, s, t⟩
          · have d1 : decide (e1 < -1) = true := decide_eq_true q
            clear q
            go_wp2_with fail
            go_ret
            exact ⟨⟨false, ⟨fun q => by (cases q), fun q => absurd q HNO.out⟩, rfl⟩, HGA.out⟩
          · have d1 : decide (e1 < -1) = false := decide_eq_false q
            have d2 : decide (65536 < e1) = true := decide_eq_true r
            clear q r
            go_wp2_with fail
            go_ret
            exact ⟨⟨false, ⟨fun q => by (cases q), fun q => absurd q HNO.out⟩, rfl⟩, HGA.out⟩
          · have d1 : decide (e1 < -1) = false := decide_eq_false q
            have d2 : decide (65536 < e1) = false := decide_eq_false r
            have d3 : decide (e2 < 1) = true := decide_eq_true s
            clear q r s
            go_wp2_with fail
            go_ret
            exact ⟨⟨false, ⟨fun q => by (cases q), fun q => absurd q HNO.out⟩, rfl⟩, HGA.out⟩
          · have d1 : decide (e1 < -1) = false := decide_eq_false q
            have d2 : decide (65536 < e1) = false := decide_eq_false r
            have d3 : decide (e2 < 1) = false := decide_eq_false s
            have d4 : decide (65536 < e2) = true := decide_eq_true t
            clear q r s t
            go_wp2_with fail
            go_ret
            exact ⟨⟨false, ⟨fun q => by (cases q), fun q => absurd q HNO.out⟩, rfl⟩, HGA.out⟩
      · obtain rfl : k = L := by omega
        have HGL := Lib.hid G
        have ht : l.take k = l := by rw [HL.out]; exact List.take_length
        rw [ht] at hsb ⊢
        have HFIN := Lib.hid (show decide (sumZ l ≤ 65536) = true ↔ Right15 l by
          rw [decide_eq_true_iff]
          exact ⟨fun q => ⟨by have := HL.out; omega, by rw [← HL.out]; exact HOK.out, q⟩, fun q => q.2.2⟩)
        clear hsb ht G
        go_wp2_with fail
        go_ret
        exact ⟨⟨_, HFIN.out, rfl⟩, HGL.out⟩
theorem rright15_yes (l : List (Int × Int)) (L : Nat) (ao : Option Addr) (cap : Nat) (w : World) (h : Rd2 w ao l) (hL : L = l.length) (hr : Right15 l) :
    Calls Try.prog 36 #[.slice ao L cap] w fun e w' => e = .returned (.bool true) ∧ Gr [] w w' := by
  refine (rright15_any l L ao cap w h hL).mono ?_
  rintro e w' ⟨⟨b, hb, rfl⟩, g⟩
  rw [hb.2 hr]
  exact ⟨rfl, g⟩
theorem rright15_no (l : List (Int × Int)) (L : Nat) (ao : Option Addr) (cap : Nat) (w : World) (h : Rd2 w ao l) (hL : L = l.length) (hr : ¬ Right15 l) :
    Calls Try.prog 36 #[.slice ao L cap] w fun e w' => e = .returned (.bool false) ∧ Gr [] w w' := by
  refine (rright15_any l L ao cap w h hL).mono ?_
  rintro e w' ⟨⟨b, hb, rfl⟩, g⟩
  cases b with
  | true => exact absurd (hb.1 rfl) hr
  | false => exact ⟨rfl, g⟩

end Go.Proofs.Ytpkhfdcokcchdab
