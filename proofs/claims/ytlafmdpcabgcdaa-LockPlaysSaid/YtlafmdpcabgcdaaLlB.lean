/-
  Layer 24: LockRounds.
-/
import Derived.Test.YtlafmdpcabgcdaaLlA
namespace Go.Proofs.Ytlafmdpcabgcdaa
open Go.RowKit

theorem minIs24 (P : Program) (L m k : Nat) (kI : Int) (hk : kI = k) (h : m = min L k) (ts : Array TypeId) (t : TypeId) (w : World) : (Builtin.min_ ts t #[.int .i64 (L : Int), .int .i64 kI]).run P w = .ok (.int .i64 (m : Int)) w := by
  subst hk
  rw [run_min_int2]
  have : (if (k : Int) < (L : Int) then (k : Int) else (L : Int)) = (m : Int) := by split <;> omega
  rw [this]
theorem step_len (S : LkS) (c d : Nat) : ((stepL S c).W d).length ≤ (S.W d).length := by
  by_cases e : d = c
  · subst e
    unfold stepL
    split
    · exact Nat.le_refl _
    · rename_i x r e
      split
      · rw [show (⟨setH S.H x d, setW S.W d r⟩ : LkS).W d = r from setW_same _ _ _, e]; simp
      · exact Nat.le_refl _
  · rw [stepL_W S c d e]; exact Nat.le_refl _
theorem eq6b (W : World) : (Op.equalIn 10000 51 (.agg #[.bool true, .bool true, .bool true, .bool true, .bool true, .bool true]) (.agg #[.bool true, .bool true, .bool true, .bool true, .bool true, .bool true])).run Try.prog W = .ok true W := by
  have u3 := Try.underlying4
  have a3 := Try.isAgg4
  have z3 := Try.sizeOf4
  rw [show (10000 : Nat) = 9999 + 1 from rfl, Op.equalIn]
  simp only [Sem.run_bind, run_underlying Try.underlying51, Result.andThen_ok]
  simp only [Std.Legacy.Range.forIn_eq_forIn_range', Std.Legacy.Range.size, Nat.sub_zero, Nat.add_sub_cancel, Nat.div_one, List.range'_succ, List.range'_zero, List.forIn_cons, List.forIn_nil]
  go_simp
theorem sli_any {k : IntKind} {w : World} {v : Value} {xs : List Int} (h : SlI k w v xs) : ∃ ao cap, v = .slice ao xs.length cap ∧ xs.length ≤ cap ∧ cap ≤ maxLen ∧ ∀ (i : Nat) (x : Int), xs[i]? = some x → ∃ b o, ao = some ⟨b, o, none⟩ ∧ b < w.heap.size ∧ w.cell? ⟨b, o + i, none⟩ = some (.int k x) := by
  rcases h with ⟨ao, cap, rfl, rfl, h1, h2⟩ | ⟨b, off, cap, rfl, h1, h2, h3, h4, h5⟩
  · exact ⟨ao, cap, rfl, by simp, h2, fun i x hi => by simp at hi⟩
  · exact ⟨_, cap, rfl, by omega, by omega, fun i x hi => ⟨b, off, rfl, h4, h5 i x hi⟩⟩
set_option maxRecDepth 100000 in
set_option maxHeartbeats 16000000 in
theorem rounds24 (v p : Value) (R : List (Value × List Int)) (xs : List Int) (w : World) (hR : RowsZ w v R) (hp : SlI .u8 w p xs) (hpw : ∀ x ∈ xs, (Lit.int .u8 x).wf = true) :
    Calls Try.prog 5 #[v, p] w fun e w' => e = .returned (.bool true) ∧ Gr [] w w' := by
  obtain ⟨ao, cap, rfl, hcap, hcap9, hnone, hat⟩ := hR
  unfold maxLen at hcap9
  obtain ⟨N, hN⟩ : ∃ N, N = R.length := ⟨_, rfl⟩
  rw [← hN] at hcap ⊢
  obtain ⟨N6, hN6⟩ : ∃ m, m = min N 6 := ⟨_, rfl⟩
  have hmn := minIs24 Try.prog N N6 6 6 rfl hN6
  have hN6a : N6 ≤ N := by omega
  have hN6b : N6 ≤ 6 := by omega
  have HN := Lib.hid hN
  have HAT := Lib.hid hat
  obtain ⟨aop, capp, rfl, hpc, hpm, hprd⟩ := sli_any hp
  unfold maxLen at hpm
  obtain ⟨M, hM⟩ : ∃ M, M = xs.length := ⟨_, rfl⟩
  rw [← hM] at hpc ⊢
  obtain ⟨M6, hM6⟩ : ∃ m, m = min M 60 := ⟨_, rfl⟩
  have hmp := minIs24 Try.prog M M6 60 60 rfl hM6
  have hM6a : M6 ≤ M := by omega
  have hM6b : M6 ≤ 60 := by omega
  have HM := Lib.hid hM
  have HP := Lib.hid (And.intro hprd hpw)
  clear hN hat hp hpw hN6 hM hprd hM6
  go_enter Try.func5, Try.ntmps5
  go_wp2_with fail
  go_at_call 6
  refine (new_ok 6 w (by omega) (by omega)).mono ?_
  rintro e w1 ⟨a, rfl, h1, g1, hb1⟩
  have H1 := Lib.hid (show LR [] [] 6 w w1 a 0 noneS from ⟨⟨_, h1, fun d k hk => by cases hk⟩, (fun b hb => by cases hb), wkn_wf _ (fun _ => rfl), g1, fun b hb => .inr (hb1 b hb)⟩)
  clear h1 g1 hb1
  go_wp2_with fail
  go_at_call 7
  refine (wakes24 _).mono ?_
  rintro e w2 ⟨rfl, g2⟩
  have H2 := Lib.hid (H1.out.gr0 g2)
  clear g2
  go_wp2_with fail
  clear hmn
  go_loopw [38] (fun i wr => ∃ (k : Nat) (S : LkS), k ≤ N6 ∧ i = .int .i64 k ∧ LR [] [] 6 w wr a 0 S ∧ (∀ x, S.H x = none) ∧ (∀ c, k ≤ c → S.W c = []) ∧ ∀ c, (S.W c).length ≤ 5) (fun i _ => N6 - (intOf i).toNat)
  case atStart => exact ⟨0, noneS, by omega, rfl, H2.out, fun _ => rfl, fun _ _ => rfl, fun _ => by simp [noneS]⟩
  case round =>
    obtain ⟨k, S, hk, rfl, hL, hH, hW, h5⟩ := hrel
    have HL := Lib.hid hL
    have HS := Lib.hid (And.intro hH (And.intro hW h5))
    clear hL hH hW h5
    by_cases hlt : k < N6
    · have ik : (k : Int) < (N6 : Int) := by omega
      obtain ⟨e, he⟩ : ∃ e, R[k]? = some e := ⟨_, List.getElem?_eq_getElem (by have := HN.out; omega)⟩
      obtain ⟨b1, o1, hao, hb1, z1, hz, hwz⟩ := HAT.out k e he
      subst hao
      have c1 : wr.cell? ⟨b1, o1 + k, none⟩ = some e.1 := (HL.out.gr.cell0 hb1).trans z1
      have hzr := hz.gr0 HL.out.gr
      obtain ⟨ev, exs⟩ := e
      simp only at c1 hz hwz hzr
      obtain ⟨aoe, cape, rfl, hrd, hc1, hc2, hc3⟩ := id hzr
      unfold maxLen at hc2
      obtain ⟨L, hL⟩ : ∃ L, L = exs.length := ⟨_, rfl⟩
      rw [← hL] at c1 hc1 hzr
      obtain ⟨L5, hL5⟩ : ∃ m, m = min L 5 := ⟨_, rfl⟩
      have hmn := minIs24 Try.prog L L5 5 5 rfl hL5
      have hL5a : L5 ≤ L := by omega
      have HZ := Lib.hid (hzr.take L5 hL5a)
      have HX5 := Lib.hid (show (exs.take L5).length ≤ 5 by rw [List.length_take]; omega)
      have HWX := Lib.hid (show ∀ x ∈ exs.take L5, WfZ x from fun x hx => hwz x (List.mem_of_mem_take hx))
      have HA := Lib.hid (lr_ask HL.out (c := k) (by omega) (by omega) HZ.out (by have := HX5.out; omega) (HS.out.2.1 k (Nat.le_refl _)) (fun x _ y hy => by rw [HS.out.1 y] at hy; cases hy) HWX.out)
      clear he hb1 z1 hz hwz hzr hrd hL hL5
      go_wp2_with (go_at_call 8; refine HA.out.mono ?_; rintro e w3 ⟨l, rfl, hr3, hm3, h3, -⟩; have H3 := Lib.hid (And.intro hr3 (And.intro hm3 h3)); clear hr3 hm3 h3)
      go_roundw
      case rel => exact ⟨k + 1, _, by omega, by go_num, H3.out.2.2, HS.out.1, fun c hc => by
        rw [show (askL S k l).W c = S.W c from setW_ne _ _ _ _ (by omega)]
        exact HS.out.2.1 c (by omega), fun c => by
        by_cases e : c = k
        · subst e
          rw [show (askL S c l).W c = l from setW_same _ _ _]
          exact Nat.le_trans (H3.out.1.len_le fun z hz => (H3.out.2.1 z).1 hz) HX5.out
        · rw [show (askL S k l).W c = S.W c from setW_ne _ _ _ _ e]
          exact HS.out.2.2 c⟩
      case measure => simp [intOf]; omega
    · obtain rfl : k = N6 := by omega
      have ik : ¬ ((k : Int) < (k : Int)) := by omega
      go_wp2_with fail
      clear hmp
      go_loopw [59] (fun i wr => ∃ (q m : Nat) (S : LkS), q ≤ M6 ∧ m ≤ q ∧ i = .int .i64 q ∧ LR [] [] 6 w wr a m S ∧ ∀ c, (S.W c).length ≤ 5) (fun i _ => M6 - (intOf i).toNat)
      case atStart => exact ⟨0, 0, S, by omega, by omega, rfl, HL.out, HS.out.2.2⟩
      case round =>
        clear HL HS
        obtain ⟨q, m, S, hq, hmq, rfl, hL, h5⟩ := hrel
        have HL := Lib.hid hL
        have H5 := Lib.hid h5
        clear hL h5
        by_cases hlt : q < M6
        · have iq : (q : Int) < (M6 : Int) := by omega
          obtain ⟨y, hy⟩ : ∃ y, xs[q]? = some y := ⟨_, List.getElem?_eq_getElem (by have := HM.out; omega)⟩
          obtain ⟨b1, o1, hao, hb1, z1⟩ := HP.out.1 q y hy
          subst hao
          have hy8 := bounds_u8 (HP.out.2 y (List.mem_of_getElem? hy))
          obtain ⟨yn, rfl⟩ := Int.eq_ofNat_of_zero_le hy8.1
          have c1 : wr.cell? ⟨b1, o1 + q, none⟩ = some (.int .u8 (yn : Int)) := (HL.out.gr.cell0 hb1).trans z1
          clear hy hb1 z1
          obtain ⟨c0, hc0⟩ : ∃ c0, c0 = yn % 6 := ⟨_, rfl⟩
          have hy6 : (yn : Int) % 6 = (c0 : Int) := by omega
          have hc6 : c0 < 6 := by omega
          have HA := Lib.hid (lr_step HL.out hc6 (by omega))
          clear hc0 hy8
          go_wp2_with (go_at_call 12; refine HA.out.mono ?_; rintro e w3 ⟨rfl, h3, -⟩; have H3 := Lib.hid h3; clear h3)
          have H35 := Lib.hid (show ∀ c, ((stepL S c0).W c).length ≤ 5 from fun c => Nat.le_trans (step_len S c0 c) (H5.out c))
          clear hy6
          generalize stepL S c0 = S1 at *
          go_loopw [68] (fun i wl => ∃ j : Nat, j ≤ 6 ∧ i = .int .i64 j ∧ LR [] [] 6 w wl a (m + 1) S1) (fun i _ => 6 - (intOf i).toNat)
          case atStart => exact ⟨0, by omega, rfl, H3.out⟩
          case round =>
            clear H3
            obtain ⟨j, hj, rfl, hL⟩ := hrel
            have HL3 := Lib.hid hL
            clear hL
            by_cases hj6 : j < 6
            · have ij : (j : Int) < 6 := by omega
              go_wp2_with fail
              go_loopw [12, 13] (fun at_ st wl => ∃ t : Nat, st = .int .i64 t ∧ LR [] [] 6 w wl a (m + 1) S1 ∧ ((at_ = .int .i64 (-1)) ∨ ∃ d, at_ = .int .i64 ((d : Nat) : Int) ∧ Way 6 S1 t d)) (fun at_ st _ => if intOf at_ = -1 then 0 else 7 - (intOf st).toNat)
              case atStart => exact ⟨0, rfl, HL3.out, .inr ⟨j, rfl, Way.start S1 hj6⟩⟩
              case round =>
                obtain ⟨t, rfl, hL, hat⟩ := hrel
                have HL4 := Lib.hid hL
                clear hL
                rcases hat with rfl | ⟨d, rfl, hway⟩
                · go_wp2_with fail
                  go_roundw
                  case rel => exact ⟨j + 1, by omega, by go_num, HL4.out⟩
                  case measure => simp [intOf]; omega
                · have hd6 := hway.1
                  have ht6 := hway.le
                  have HWY := Lib.hid hway
                  have b1 : ((d : Int) != -1) = true := by rw [bne_iff_ne]; omega
                  have b2 : ((d : Int) == -1) = false := by rw [beq_eq_false_iff_ne]; omega
                  have b3 : ¬ ((6 : Int) < (t : Int)) := by omega
                  clear hway
                  cases hwl : waitL S1 d with
                  | none =>
                    have hz : waitZ S1 d = -1 := by unfold waitZ; rw [hwl]
                    have b4 : (((-1 : Int)) == (d : Int)) = false := by rw [beq_eq_false_iff_ne]; omega
                    have HWT := Lib.hid (fun W (h : LR [] [] 6 w W a (m + 1) S1) => lr_waits h hd6 hz)
                    clear hwl hz
                    go_wp2_with fail
                    go_at_call 17
                    refine (HWT.out _ HL4.out).mono ?_
                    rintro e w4 ⟨rfl, h4, -⟩
                    have H4 := Lib.hid h4
                    clear h4
                    go_wp2_with fail
                    go_at_call 17
                    refine (HWT.out _ H4.out).mono ?_
                    rintro e w5 ⟨rfl, h5, -⟩
                    have H5w := Lib.hid h5
                    clear h5
                    go_wp2_with fail
                    go_roundw
                    case rel => exact ⟨t + 1, by go_num, H5w.out, .inl rfl⟩
                    case measure => simp [intOf]; omega
                  | some d2 =>
                    have hz : waitZ S1 d = (d2 : Int) := by unfold waitZ; rw [hwl]
                    have hne := HWY.out.ne HL4.out.ok hwl
                    have b4 : ((d2 : Int) == (d : Int)) = false := by rw [beq_eq_false_iff_ne]; omega
                    have HNX := Lib.hid (HWY.out.next HL4.out.ok hwl)
                    have HWT := Lib.hid (fun W (h : LR [] [] 6 w W a (m + 1) S1) => lr_waits h hd6 hz)
                    have hn6 := HNX.out.le
                    clear hwl hz hne
                    go_wp2_with fail
                    go_at_call 17
                    refine (HWT.out _ HL4.out).mono ?_
                    rintro e w4 ⟨rfl, h4, -⟩
                    have H4 := Lib.hid h4
                    clear h4
                    go_wp2_with fail
                    go_at_call 17
                    refine (HWT.out _ H4.out).mono ?_
                    rintro e w5 ⟨rfl, h5, -⟩
                    have H5w := Lib.hid h5
                    clear h5
                    go_wp2_with fail
                    go_roundw
                    case rel => exact ⟨t + 1, by go_num, H5w.out, .inr ⟨d2, rfl, HNX.out⟩⟩
                    case measure => simp [intOf]; omega
            · obtain rfl : j = 6 := by omega
              go_wp2_with fail
              go_roundw
              case rel => exact ⟨q + 1, m + 1, S1, by omega, by omega, by go_num, HL3.out, H35.out⟩
              case measure => simp [intOf]; omega
        · obtain rfl : q = M6 := by omega
          have iq : ¬ ((q : Int) < (q : Int)) := by omega
          have HT := Lib.hid (show totL S 6 ≤ 30 by
            have h0 := H5.out 0; have h1 := H5.out 1; have h2 := H5.out 2; have h3 := H5.out 3; have h4 := H5.out 4; have h5 := H5.out 5
            simp only [totL]; omega)
          have hm60 : m ≤ 60 := by omega
          have HWN := Lib.hid (show ∀ b ∈ a.all, w.heap.size ≤ b from fun b hb => (HL.out.new b hb).resolve_left (by simp))
          clear H5
          go_wp2_with fail
          have H9 := Lib.hid (HL.out.fresh (Obj.cells #[.bool false, .bool false, .bool false, .bool false, .bool false, .bool false] 51))
          have HD9 := Lib.hid (show Holds (wr.alloc (Obj.cells #[.bool false, .bool false, .bool false, .bool false, .bool false, .bool false] 51)) wr.heap.size (dnA fun _ => false) 51 from Holds.new wr _ _)
          have HG9 := Lib.hid (HL.out.gr.alloc (Obj.cells #[.bool false, .bool false, .bool false, .bool false, .bool false, .bool false] 51))
          have HDW := Lib.hid (show w.heap.size ≤ wr.heap.size from HL.out.gr.size)
          have HDA := Lib.hid (show wr.heap.size ∉ a.all from fun q => by obtain ⟨vs, hi, _⟩ := HL.out.is; have := hi.lt _ q; omega)
          clear HL
          generalize wr.heap.size = D at *
          generalize wr.alloc (Obj.cells #[Value.bool false, .bool false, .bool false, .bool false, .bool false, .bool false] 51) = w9 at *
          go_loopw [90] (fun i wl => ∃ (j m' : Nat) (S : LkS) (dn : Nat → Bool), j ≤ 36 ∧ m' ≤ 60 + 6 * j ∧ i = .int .i64 j ∧ LR (D :: a.all) [D] 6 w9 wl a m' S ∧ Holds wl D (dnA dn) 51 ∧ Jr j S ∧ (32 ≤ j → ∀ c, c < 6 → dn c = true)) (fun i _ => 36 - (intOf i).toNat)
          case atStart => exact ⟨0, m, S, fun _ => false, by omega, by omega, rfl, H9.out, HD9.out, Jr.start HT.out, fun q => by omega⟩
          case round =>
            clear H9 HD9 HT
            obtain ⟨j, m', S0, dn, hj, hm', rfl, hL, hD, hJ, hdn⟩ := hrel
            have HL5 := Lib.hid hL
            have HD5 := Lib.hid hD
            have HJ5 := Lib.hid (And.intro hJ hdn)
            clear hL hD hJ hdn
            by_cases hj6 : j < 36
            · have ij : (j : Int) < 36 := by omega
              go_wp2_with fail
              go_loopw [92] (fun i wl => ∃ (c mm : Nat) (S : LkS) (dn : Nat → Bool), c ≤ 6 ∧ mm ≤ m' + c ∧ i = .int .i64 c ∧ LR (D :: a.all) [D] 6 w9 wl a mm S ∧ Holds wl D (dnA dn) 51 ∧ RoundL 6 S0 c S ∧ (32 ≤ j → ∀ c, c < 6 → dn c = true) ∧ (totL S0 6 = 0 → ∀ d, d < c → dn d = true)) (fun i _ => 6 - (intOf i).toNat)
              case atStart => exact ⟨0, m', S0, dn, by omega, by omega, rfl, HL5.out, HD5.out, RoundL.start HL5.out.ok, HJ5.out.2, fun _ d hd => by omega⟩
              case round =>
                obtain ⟨c, mm, S2, dn2, hc, hmm, rfl, hL, hD, hR, hdn, hdz⟩ := hrel
                have HL6 := Lib.hid hL
                have HD6 := Lib.hid hD
                have HR6 := Lib.hid (And.intro hR (And.intro hdn hdz))
                clear hL hD hR hdn hdz
                by_cases hc6 : c < 6
                · have ic : (c : Int) < 6 := by omega
                  have HA := Lib.hid (lr_step HL6.out hc6 (by omega))
                  have HG6 := Lib.hid (HL6.out.gr)
                  by_cases hall : (stepL S2 c).W c = []
                  · rw [decide_eq_true hall] at HA
                    have HALL := Lib.hid (show actL S2 c = dropL (stepL S2 c) c by unfold actL; rw [if_pos hall])
                    clear hall
                    go_wp2_with fail
                    go_at_call 12
                    refine HA.out.mono ?_
                    rintro e w3 ⟨rfl, h3, g3⟩
                    have HD3 := HD6.out.gr g3 HDA.out
                    have d1 : w3.cell? ⟨D, c, none⟩ = some (.bool (dn2 c)) := (HD3.cell c).trans (dnA_get dn2 hc6)
                    have d2 : w3.frozen? ⟨D, c, none⟩ = false := HD3.frozen c
                    have gs : Gr [D] w3 (w3.setCell ⟨D, c, none⟩ (.bool true)) := (Gr.refl [D] w3).setCell (p := ⟨D, c, none⟩) (.inl (by simp)) _
                    have HS := Lib.hid (And.intro (h3.grA gs (fun b hb q => HDA.out (by simp at q; rw [← q]; exact hb)) (fun b hb => hb) (fun b hb => .inl (by simp at hb; simp [hb]))) (show Holds (w3.setCell ⟨D, c, none⟩ (.bool true)) D (dnA (updB dn2 c)) 51 by rw [← dnA_set dn2 hc6]; exact HD3.set c _))
                    clear h3 g3 HD3 gs
                    go_wp2_with fail
                    go_at_call 10
                    refine (lr_drop HS.out.1 hc6).mono ?_
                    rintro e w5 ⟨rfl, h5, g5⟩
                    have HE := Lib.hid (And.intro h5 (HS.out.2.gr g5 HDA.out))
                    clear h5 g5 d1 d2
                    go_wp2_with fail
                    go_roundw
                    case rel => exact ⟨c + 1, mm + 1, _, updB dn2 c, by omega, by omega, by go_num, HE.out.1, HE.out.2, by rw [← HALL.out]; exact HR6.out.1.next hc6, fun hj32 d hd => by
                      unfold updB
                      split
                      · rfl
                      · exact HR6.out.2.1 hj32 d hd, fun h0 d hd => by
                      unfold updB
                      split
                      · rfl
                      · exact HR6.out.2.2 h0 d (by omega)⟩
                    case measure => simp [intOf]; omega
                  · rw [decide_eq_false hall] at HA
                    have HALL := Lib.hid (show actL S2 c = stepL S2 c by unfold actL; rw [if_neg hall])
                    have HZ := Lib.hid (show totL S0 6 ≠ 0 from fun h0 => hall (stepL_all HR6.out.1 hc6 h0))
                    clear hall
                    go_wp2_with fail
                    go_at_call 12
                    refine HA.out.mono ?_
                    rintro e w3 ⟨rfl, h3, g3⟩
                    have HE := Lib.hid (And.intro h3 (HD6.out.gr g3 HDA.out))
                    clear h3 g3
                    go_wp2_with fail
                    go_roundw
                    case rel => exact ⟨c + 1, mm + 1, _, dn2, by omega, by omega, by go_num, HE.out.1, HE.out.2, by rw [← HALL.out]; exact HR6.out.1.next hc6, HR6.out.2.1, fun h0 d hd => absurd h0 HZ.out⟩
                    case measure => simp [intOf]; omega
                · obtain rfl : c = 6 := by omega
                  go_wp2_with fail
                  go_roundw
                  case rel => exact ⟨j + 1, mm, S2, dn2, by omega, by omega, by go_num, HL6.out, HD6.out, HJ5.out.1.next HL5.out.ok HR6.out.1, fun hj32 c hc => by
                    by_cases hj3 : 32 ≤ j
                    · exact HR6.out.2.1 hj3 c hc
                    · exact HR6.out.2.2 (HJ5.out.1.zero (by omega)) c hc⟩
                  case measure => simp [intOf]; omega
            · obtain rfl : j = 36 := by omega
              have d0 : Holds wr D #[.bool true, .bool true, .bool true, .bool true, .bool true, .bool true] 51 := by
                have := HD5.out
                rwa [dnA_true (HJ5.out.2 (by omega))] at this
              have q0 := d0.cell 0
              have q1 := d0.cell 1
              have q2 := d0.cell 2
              have q3 := d0.cell 3
              have q4 := d0.cell 4
              have q5 := d0.cell 5
              clear d0
              have hq := eq6b
              go_wp2_with fail
              go_ret
              exact ⟨rfl, HG9.out.nextN HL5.out.gr (fun b hb => .inr (by
                rcases List.mem_cons.1 hb with e | e
                · rw [e]; exact HDW.out
                · exact HWN.out b e))⟩
theorem walk_LockRounds (v : Value) (R : List (Value × List Int)) (p : Value) (xs : List Int) {w : World} (hR : RowsZ w v R) (hp : SlI .u8 w p xs) (hpw : ∀ x ∈ xs, (Lit.int .u8 x).wf = true) :
    Calls Try.prog 5 #[v, p] w fun e w' => e = .returned (.bool true) ∧ Below w.heap.size w w' :=
  (rounds24 v p R xs w hR hp hpw).mono fun _ _ ⟨h, g⟩ => ⟨h, g.below0⟩
end Go.Proofs.Ytlafmdpcabgcdaa
