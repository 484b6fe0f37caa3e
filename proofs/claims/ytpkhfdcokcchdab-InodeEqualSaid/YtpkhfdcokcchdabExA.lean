/-
  Layer 15: the program's merge, Right, Blocks, Held, spot, Map.
-/
import Derived.Test.YtpkhfdcokcchdabExP
import Derived.Test.YtpkhfdcokcchdabSlE
import Derived.Test.YtpkhfdcokcchdabRegT
import Derived.Test.YtpkhfdcokcchdabExPq
namespace Go.Proofs.Ytpkhfdcokcchdab
open Go.RowKit

theorem kcall_of {P : Program} {f : FuncId} {args : Array Value} {w : World} {v : Value} (h : Calls P f args w fun e w' => e = .returned v ∧ Gr [] w w') : Calls P f args w fun e w' => e = .returned v ∧ Below w.heap.size w w' :=
  h.mono fun _ _ q => ⟨q.1, q.2.below0⟩
theorem emerge_any (a1 a2 b1 b2 : Int) (w : World) (h : IntKind.i64.wrap (a1 + a2) = a1 + a2) :
    Calls Try.prog 52 #[.agg #[.int .i64 a1, .int .i64 a2], .agg #[.int .i64 b1, .int .i64 b2]] w fun e w' => e = .returned (.bool (mrg (a1, a2) (b1, b2))) ∧ Gr [] w w' := by
  have HG := Lib.hid (((Gr.refl [] w).alloc (Obj.cells #[.int .i64 a1, .int .i64 a2] 72)).alloc (Obj.cells #[.int .i64 b1, .int .i64 b2] 72))
  by_cases h1 : a1 = -1
  · have d1 : (a1 == -1) = true := by simpa using h1
    have HM := Lib.hid (show mrg (a1, a2) (b1, b2) = (a1 == b1) by unfold mrg; rw [if_pos (.inl h1)]; rfl)
    clear h1
    go_enter Try.func52, Try.ntmps52
    go_wp2_with fail
    go_ret
    exact ⟨by rw [HM.out]; rfl, HG.out⟩
  · have d1 : (a1 == -1) = false := by simpa using h1
    by_cases h2 : b1 = -1
    · have d2 : (b1 == -1) = true := by simpa using h2
      have HM := Lib.hid (show mrg (a1, a2) (b1, b2) = (a1 == b1) by unfold mrg; rw [if_pos (.inr h2)]; rfl)
      clear h1 h2
      go_enter Try.func52, Try.ntmps52
      go_wp2_with fail
      go_ret
      exact ⟨by rw [HM.out]; rfl, HG.out⟩
    · have d2 : (b1 == -1) = false := by simpa using h2
      have HM := Lib.hid (show mrg (a1, a2) (b1, b2) = (a1 + a2 == b1) by unfold mrg; rw [if_neg (fun q => q.elim h1 h2)]; rfl)
      clear h1 h2
      go_enter Try.func52, Try.ntmps52
      go_wp2_with fail
      go_ret
      exact ⟨by rw [HM.out]; rfl, HG.out⟩
theorem wrap_over (x : Int) (h1 : 9223372036854775807 < x) (h2 : x ≤ 18446744073709551615) : IntKind.i64.wrap x = x - 18446744073709551616 := by
  simp [IntKind.wrap, IntKind.bits, IntKind.signed]
  omega
/-- The same for runs that begin anywhere: a sum that does not fit joins nothing. -/
theorem emerge_big (a1 a2 b1 b2 : Int) (w : World) (ha : -1 ≤ a1 ∧ a1 ≤ 9223372036854775807) (ha2 : 0 ≤ a2 ∧ a2 ≤ 100000000) (hb : -1 ≤ b1 ∧ b1 ≤ 9223372036854775807) :
    Calls Try.prog 52 #[.agg #[.int .i64 a1, .int .i64 a2], .agg #[.int .i64 b1, .int .i64 b2]] w fun e w' => e = .returned (.bool (mrg (a1, a2) (b1, b2))) ∧ Gr [] w w' := by
  by_cases hov : a1 + a2 ≤ 9223372036854775807
  · exact emerge_any a1 a2 b1 b2 w (IntWalk.i64_in _ (by omega))
  · have HG := Lib.hid (((Gr.refl [] w).alloc (Obj.cells #[.int .i64 a1, .int .i64 a2] 72)).alloc (Obj.cells #[.int .i64 b1, .int .i64 b2] 72))
    have h1 : ¬ a1 = -1 := by omega
    have d1 : (a1 == -1) = false := by simpa using h1
    by_cases h2 : b1 = -1
    · have d2 : (b1 == -1) = true := by simpa using h2
      have HM := Lib.hid (show mrg (a1, a2) (b1, b2) = (a1 == b1) by unfold mrg; rw [if_pos (.inr h2)]; rfl)
      clear h1 h2
      go_enter Try.func52, Try.ntmps52
      go_wp2_with fail
      go_ret
      exact ⟨by rw [HM.out]; rfl, HG.out⟩
    · have d2 : (b1 == -1) = false := by simpa using h2
      obtain ⟨s, hs⟩ : ∃ s, s = a1 + a2 - 18446744073709551616 := ⟨_, rfl⟩
      have hw : IntKind.i64.wrap (a1 + a2) = s := by rw [hs]; exact wrap_over _ (by omega) (by omega)
      have HM := Lib.hid (show mrg (a1, a2) (b1, b2) = (s == b1) by
        unfold mrg
        rw [if_neg (fun q => q.elim h1 h2)]
        simp only
        rw [decide_eq_false (by omega)]
        symm
        simp
        omega)
      clear h1 h2 hs
      go_enter Try.func52, Try.ntmps52
      go_wp2_with fail
      go_ret
      exact ⟨by rw [HM.out]; rfl, HG.out⟩
theorem bad_entry {l : List (Int × Int)} {k : Nat} {e : Int × Int} (h : l[k]? = some e) (hb : ¬ (-1 ≤ e.1 ∧ e.1 ≤ 65536 ∧ 1 ≤ e.2 ∧ e.2 ≤ 65536)) : ¬ Right15 l :=
  fun q => hb ((okK_all q.2.1).1 e (List.mem_of_getElem? h))

set_option maxHeartbeats 4000000 in
set_option maxRecDepth 20000 in
theorem eright_any (l : List (Int × Int)) (L : Nat) (ao : Option Addr) (cap : Nat) (w : World) (h : Rd2 w ao l) (hL : L = l.length) :
    Calls Try.prog 33 #[.slice ao L cap] w fun e w' => (∃ b : Bool, (b = true ↔ Right15 l) ∧ e = .returned (.bool b)) ∧ Gr [] w w' := by
  have HR := Lib.hid h
  have HL := Lib.hid hL
  have HG := Lib.hid (Gr.refl [] w)
  clear h hL
  by_cases h64 : 64 < L
  · have d1 : decide ((64 : Int) < (L : Int)) = true := by simp; omega
    have HF := Lib.hid (show ¬ Right15 l from fun q => by have := q.1; have := HL.out; omega)
    go_enter Try.func33, Try.ntmps33
    go_wp2_with fail
    go_ret
    exact ⟨⟨false, ⟨fun q => by (cases q), fun q => absurd q HF.out⟩, rfl⟩, HG.out⟩
  · have d1 : decide ((64 : Int) < (L : Int)) = false := by simp; omega
    have hL64 : L ≤ 64 := by omega
    go_enter Try.func33, Try.ntmps33
    go_wp2_with fail
    clear d1 h64
    go_loopw [3, 11] (fun s i wr => ∃ k : Nat, k ≤ L ∧ i = .int .i64 k ∧ s = .int .i64 (sumZ (l.take k)) ∧ Hid (okK l k) ∧ Gr [] w wr) (fun _ i _ => L - (intOf i).toNat)
    case atStart => exact ⟨0, by omega, rfl, rfl, Lib.hid (okK_zero l), HG.out⟩
    case round =>
      clear HG
      obtain ⟨k, hk, rfl, rfl, HOK, G⟩ := hrel
      have hsb := sumZ_bound HOK.out
      by_cases hkL : k < L
      · have hkL2 : (k : Int) < (L : Int) := by omega
        obtain ⟨⟨e1, e2⟩, he⟩ : ∃ e, l[k]? = some e := ⟨_, List.getElem?_eq_getElem (by have := HL.out; omega)⟩
        obtain ⟨b, o, hao, hb, x0, x1⟩ := HR.out k _ he
        have y0 : wr.cell? ⟨b, o + k * 2, none⟩ = some (.int .i64 e1) := (G.cell0 hb).trans x0
        have y1 : wr.cell? ⟨b, o + k * 2 + 1, none⟩ = some (.int .i64 e2) := (G.cell0 hb).trans x1
        have HEE := Lib.hid he
        have ga := G.alloc (Obj.cells #[.int .i64 e1, .int .i64 e2] 72)
        have HGA := Lib.hid ga
        have HX := Lib.hid (Holds.new wr #[.int .i64 e1, .int .i64 e2] 72)
        have z0 := HX.out.cell 0
        have z1 := HX.out.cell 1
        obtain ⟨s1, hs1⟩ : ∃ s1, s1 = sumZ (l.take k) := ⟨_, rfl⟩
        rw [← hs1] at hsb ⊢
        have HS1 := Lib.hid hs1
        subst hao
        clear ga x0 x1 G he hs1
        by_cases hbad : -1 ≤ e1 ∧ e1 ≤ 65536 ∧ 1 ≤ e2 ∧ e2 ≤ 65536
        · have d1 : decide (e2 < 1) = false := decide_eq_false (by omega)
          have d2 : decide (65536 < e2) = false := decide_eq_false (by omega)
          have d3 : decide (e1 < -1) = false := decide_eq_false (by omega)
          have d4 : decide (65536 < e1) = false := decide_eq_false (by omega)
          have hsum : sumZ (l.take (k + 1)) = s1 + e2 := by rw [sumZ_take HEE.out, HS1.out]
          have HSUM := Lib.hid hsum
          have HBD := Lib.hid hbad
          have hw : IntKind.i64.wrap (s1 + e2) = s1 + e2 := IntWalk.i64_in _ (by
            have q1 := hsb.1
            have q2 := hsb.2
            have : (65536 : Int) * (k : Int) ≤ 65536 * 64 := by omega
            omega)
          clear hsum
          by_cases hk0 : k = 0
          · subst hk0
            rw [Nat.zero_mul, Nat.add_zero] at y0 y1
            have HOK2 := Lib.hid (okK_one HEE.out HBD.out)
            clear hbad hsb
            go_wp2_with fail
            go_quiet (fail)
            have z1 : ((wr.alloc (Obj.cells #[.int .i64 e1, .int .i64 e2] 72)).drewN nq).cell? ⟨wr.heap.size, 1, none⟩ = some (.int .i64 e2) := (HX.out.gr0 ((Gr.refl [] _).drewN nq)).cell 1
            go_wp2_with fail
            go_roundw
            case rel => exact ⟨1, by omega, rfl, by rw [HSUM.out], HOK2, HGA.out.drewN _⟩
            case measure => simp [intOf]; omega
          · obtain ⟨j, hj⟩ : ∃ j, j + 1 = k := ⟨k - 1, by omega⟩
            obtain ⟨⟨p1, p2⟩, hp⟩ : ∃ p, l[j]? = some p := ⟨_, List.getElem?_eq_getElem (by have := HL.out; omega)⟩
            obtain ⟨b', o', hao', hb', v0, v1⟩ := HR.out j _ hp
            injection hao' with hao'
            injection hao' with q1 q2
            subst q1 q2
            have hpm : -1 ≤ p1 ∧ p1 ≤ 65536 ∧ 1 ≤ p2 ∧ p2 ≤ 65536 := HOK.out.1 (p1, p2) (by
              obtain ⟨c1, c2⟩ := List.getElem?_eq_some_iff.1 hp
              rw [← hj, List.take_succ_eq_append_getElem c1, c2]
              exact List.mem_append.2 (.inr (List.mem_singleton.2 rfl)))
            have hj2 : (k : Int) - 1 = (j : Int) := by omega
            have hk1 : (0 : Int) < (k : Int) := by omega
            have hjL : j < L := by omega
            have dk : decide (0 < k) = true := decide_eq_true (by omega)
            have hj3 : IntKind.i64.wrap (j : Int) = (j : Int) := IntWalk.i64_in _ (by omega)
            have hj4 : (0 : Int) ≤ (j : Int) := by omega
            have hj5 : (j : Int) < (L : Int) := by omega
            have HJ := Lib.hid hj
            have hstep := okK_step hp (by rw [hj]; exact HEE.out) (by rw [hj]; exact HOK.out) HBD.out
            rw [show j + 2 = k + 1 by omega] at hstep
            have HST := Lib.hid hstep
            obtain ⟨m, hm⟩ : ∃ m, m = mrg (p1, p2) (e1, e2) := ⟨_, rfl⟩
            rw [← hm] at HST
            have k0 := kp_cell z0
            have k1 := kp_cell z1
            have u0 := kp_cell ((HGA.out.cell0 hb').trans v0)
            have u1 := kp_cell ((HGA.out.cell0 hb').trans v1)
            have hne := kp_ne (wr.alloc (Obj.cells #[.int .i64 e1, .int .i64 e2] 72))
            have P1 := Lib.hid (fun x : Cls (Kp (wr.alloc (Obj.cells #[.int .i64 e1, .int .i64 e2] 72))) => kcall_of (emerge_any p1 p2 e1 e2 x.w (IntWalk.i64_in _ (by omega))))
            rw [← hm] at P1
            clear hm hj hstep hbad hsb v0 v1 hp hpm
            go_wp2_with fail
            cases m with
            | true =>
              refine wp_region_kp (by kernel_rfl) (by kernel_rfl) ?_
              repeat (go_big_quiet_step ((rename_i x; with_reducible exact kp_call x (P1.out x))))
              with_reducible refine wpQuiet_nil ?_
              rintro _ ⟨y, rfl⟩
              have HGY := Lib.hid (HGA.out.nextB y.h)
              have HNO := Lib.hid (show ¬ Right15 l from fun q => by
                have := HST.out.1 (okK_le q.2.1 (by have := HL.out; omega))
                cases this)
              clear k0 k1 u0 u1 hne P1
              generalize y.w = wy at *
              clear y
              go_wp2_with fail
              go_ret
              exact ⟨⟨false, ⟨fun q => by (cases q), fun q => absurd q HNO.out⟩, rfl⟩, HGY.out⟩
            | false =>
              refine wp_region_kp (by kernel_rfl) (by kernel_rfl) ?_
              repeat (go_big_quiet_step ((rename_i x; with_reducible exact kp_call x (P1.out x))))
              with_reducible refine wpQuiet_nil ?_
              rintro _ ⟨y, rfl⟩
              have HGY := Lib.hid (HGA.out.nextB y.h)
              have z1 := k1 y
              clear k0 k1 u0 u1 hne P1 z0
              generalize y.w = wy at *
              clear y
              go_wp2_with fail
              go_roundw
              case rel => exact ⟨k + 1, by omega, by go_num, by rw [HSUM.out], Lib.hid (HST.out.2 rfl), HGY.out⟩
              case measure => simp [intOf]; omega
        · have HNO := Lib.hid (bad_entry HEE.out hbad)
          have hcase : e2 < 1 ∨ (¬ e2 < 1 ∧ 65536 < e2) ∨ (¬ e2 < 1 ∧ ¬ 65536 < e2 ∧ e1 < -1) ∨ (¬ e2 < 1 ∧ ¬ 65536 < e2 ∧ ¬ e1 < -1 ∧ 65536 < e1) := by omega
          clear hbad hsb
          rcases hcase with q | ⟨q, r⟩ | ⟨q, r, s⟩ | ⟨q, r, s, t⟩
          · have d1 : decide (e2 < 1) = true := decide_eq_true q
            clear q
            go_wp2_with fail
            go_ret
            exact ⟨⟨false, ⟨fun q => by (cases q), fun q => absurd q HNO.out⟩, rfl⟩, HGA.out⟩
          · have d1 : decide (e2 < 1) = false := decide_eq_false q
            have d2 : decide (65536 < e2) = true := decide_eq_true r
            clear q r
            go_wp2_with fail
            go_ret
            exact ⟨⟨false, ⟨fun q => by (cases q), fun q => absurd q HNO.out⟩, rfl⟩, HGA.out⟩
          · have d1 : decide (e2 < 1) = false := decide_eq_false q
            have d2 : decide (65536 < e2) = false := decide_eq_false r
            have d3 : decide (e1 < -1) = true := decide_eq_true s
            clear q r s
            go_wp2_with fail
            go_ret
            exact ⟨⟨false, ⟨fun q => by (cases q), fun q => absurd q HNO.out⟩, rfl⟩, HGA.out⟩
          · have d1 : decide (e2 < 1) = false := decide_eq_false q
            have d2 : decide (65536 < e2) = false := decide_eq_false r
            have d3 : decide (e1 < -1) = false := decide_eq_false s
            have d4 : decide (65536 < e1) = true := decide_eq_true t
            clear q r s t
            go_wp2_with fail
            go_ret
            exact ⟨⟨false, ⟨fun q => by (cases q), fun q => absurd q HNO.out⟩, rfl⟩, HGA.out⟩
      · obtain rfl : k = L := by omega
        have HGL := Lib.hid G
        have ht : l.take k = l := by rw [HL.out]; exact List.take_length
        rw [ht] at hsb ⊢
        have HFIN := Lib.hid (show decide (sumZ l ≤ 65536) = true ↔ Right15 l by
          rw [decide_eq_true_iff]
          exact ⟨fun q => ⟨by have := HL.out; omega, by rw [← HL.out]; exact HOK.out, q⟩, fun q => q.2.2⟩)
        clear hsb ht G
        go_wp2_with fail
        go_ret
        exact ⟨⟨_, HFIN.out, rfl⟩, HGL.out⟩
theorem eright_yes (l : List (Int × Int)) (L : Nat) (ao : Option Addr) (cap : Nat) (w : World) (h : Rd2 w ao l) (hL : L = l.length) (hr : Right15 l) :
    Calls Try.prog 33 #[.slice ao L cap] w fun e w' => e = .returned (.bool true) ∧ Gr [] w w' := by
  refine (eright_any l L ao cap w h hL).mono ?_
  rintro e w' ⟨⟨b, hb, rfl⟩, g⟩
  rw [hb.2 hr]
  exact ⟨rfl, g⟩
theorem eright_no (l : List (Int × Int)) (L : Nat) (ao : Option Addr) (cap : Nat) (w : World) (h : Rd2 w ao l) (hL : L = l.length) (hr : ¬ Right15 l) :
    Calls Try.prog 33 #[.slice ao L cap] w fun e w' => e = .returned (.bool false) ∧ Gr [] w w' := by
  refine (eright_any l L ao cap w h hL).mono ?_
  rintro e w' ⟨⟨b, hb, rfl⟩, g⟩
  cases b with
  | true => exact absurd (hb.1 rfl) hr
  | false => exact ⟨rfl, g⟩

end Go.Proofs.Ytpkhfdcokcchdab
