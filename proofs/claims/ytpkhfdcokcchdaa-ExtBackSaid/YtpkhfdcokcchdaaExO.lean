/-
  Layer 15: ExtBack.
-/
import Derived.Test.YtpkhfdcokcchdaaExN
namespace Go.Proofs.Ytpkhfdcokcchdaa
open Go.RowKit

theorem emap_get (l : List (Int × Int)) (L i : Nat) (ao : Option Addr) (cap : Nat) (w : World) (x : Int) (h : Rd2 w ao l) (hL : L = l.length) (hs : smallP l) (hi : i < 9223372036854775808) (hx : (blk l)[i]? = some x) :
    Calls Try.prog 48 #[.slice ao L cap, .int .i64 i] w fun e w' => e = .returned (.tuple #[.int .i64 x, .bool true]) ∧ Gr [] w w' := by
  refine (emap_any l L i ao cap w h hL hs hi).mono ?_
  rintro e w' ⟨g, ⟨y, hy, rfl⟩ | ⟨hy, _⟩⟩
  · rw [hx] at hy
    injection hy with hy
    subst hy
    exact ⟨rfl, g⟩
  · rw [hx] at hy; cases hy
theorem eappend_far (T : List (Int × Int)) (A : Int) (L : Nat) (ao : Option Addr) (cap : Nat) (w : World) (h : Sl2 w (.slice ao L cap) T) (hT : Right15 T) (hT2 : ∀ e ∈ T, -1 ≤ e.1 ∧ e.1 ≤ 199 ∧ 1 ≤ e.2 ∧ e.2 ≤ 180) (hT3 : sumZ T ≤ 180) (hT4 : T.length ≤ 20) (hA : 1000 ≤ A) (hA2 : A ≤ 2000) :
    Calls Try.prog 53 #[.slice ao L cap, .agg #[.int .i64 A, .int .i64 2]] w fun e w' => ∃ ao' cap', e = .returned (.tuple #[.slice ao' (T ++ [(A, 2)]).length cap', .int .i64 0]) ∧ Sl2 w' (.slice ao' (T ++ [(A, 2)]).length cap') (T ++ [(A, 2)]) ∧ Right15 (T ++ [(A, 2)]) ∧ Gr [] w w' := by
  have hj := app_tamed hT2 hT.apart hA
  have hr1 : Right15 [(A, (2 : Int))] := (one_right _).2 (by simp only; omega)
  have hr2 : Right15 (T ++ [(A, 2)]) := by
    refine .of (by simp; omega) (fun e he => ?_) (by rw [← hj]; exact apart_join _) (by rw [sumZ_append]; simp [sumZ]; omega)
    rcases List.mem_append.1 he with q | q
    · have := hT2 e q; omega
    · simp at q; subst q; simp only; omega
  refine (eappend_any T L ao cap A 2 w h).mono ?_
  rw [hj]
  rintro e w' ⟨g, ⟨h, _⟩ | ⟨_, h, _⟩ | ⟨_, _, _, ao', cap', rfl, hs⟩⟩
  · exact absurd hT h
  · exact absurd ⟨hr1, hr2⟩ h
  · exact ⟨ao', cap', rfl, hs, hr2, g⟩

set_option maxHeartbeats 16000000 in
set_option maxRecDepth 100000 in
theorem eback_any (v : Value) (x y : Int) (w : World) (h : SlN 2 w v) (hx0 : 0 ≤ x) (hx1 : x ≤ 65535) (hy0 : 0 ≤ y) (hy1 : y ≤ 255) :
    Calls Try.prog 12 #[v, .int .u16 x, .int .u8 y] w fun e w' => e = .returned (.bool true) ∧ Gr [] w w' := by
  obtain ⟨l0, HTA⟩ := etame_any h
  obtain ⟨T, hT⟩ : ∃ T, T = tamed l0 := ⟨_, rfl⟩
  have HT := Lib.hid (show Right15 T ∧ (∀ e ∈ T, -1 ≤ e.1 ∧ e.1 ≤ 199 ∧ 1 ≤ e.2 ∧ e.2 ≤ 180) ∧ sumZ T ≤ 180 ∧ T.length ≤ 20 by rw [hT]; exact tamed_ok l0)
  rw [← hT] at HTA
  have HTA := Lib.hid HTA
  obtain ⟨S, hS⟩ : ∃ S : Nat, (S : Int) = sumZ T := ⟨(sumZ T).toNat, by have := (sumZ_mem (l := T) (fun e he => (HT.out.2.1 e he).2.2.1)).1; omega⟩
  have HS := Lib.hid hS
  have HBL := Lib.hid (show (blk T).length = S by have := blk_len (l := T) (fun e he => (HT.out.2.1 e he).2.2.1); omega)
  have hS180 : S ≤ 180 := by have := HT.out.2.2.1; omega
  obtain ⟨K, hK⟩ : ∃ K : Nat, x % ((S : Int) + 1) = (K : Int) := ⟨(x % ((S : Int) + 1)).toNat, by have := Int.emod_nonneg x (show ((S : Int) + 1) ≠ 0 by omega); omega⟩
  have hKS : K ≤ S := by have := Int.emod_lt_of_pos x (show (0 : Int) < (S : Int) + 1 by omega); omega
  have hSne : ¬ ((S : Int) + 1 = 0) := by omega
  have hwx : IntKind.i64.wrap x = x := IntWalk.i64_in _ (by omega)
  have hwy : IntKind.i64.wrap y = y := IntWalk.i64_in _ (by omega)
  have hwK : IntKind.i64.wrap (K : Int) = (K : Int) := IntWalk.i64_in _ (by omega)
  have hlen20 : T.length ≤ 20 := HT.out.2.2.2
  clear h hT hS
  go_enter Try.func12, Try.ntmps12
  go_wp2_with fail
  refine HTA.out.mono ?_
  rintro e w1 ⟨v1, rfl, o1, g1⟩
  have HL1 := Lib.hid (elist_any T v1 _ _ w1 o1 (by omega))
  have H1 := Lib.hid g1
  clear o1 g1 HTA
  go_wp2_with fail
  refine HL1.out.mono ?_
  rintro e w2 ⟨vL, vM, rfl, o2, g2⟩
  obtain ⟨aL, cL, hvL, -, -, -⟩ := own_parts o2
  subst hvL
  have H2 := Lib.hid (And.intro (own_sl2 o2) (H1.out.next0 g2))
  clear o2 g2 HL1 H1
  go_wp2_with fail
  refine (eblocks_any T T.length S aL cL w2 (sl2_parts H2.out.1).2.1 rfl HT.out.1.small HS.out).mono ?_
  rintro e w3 ⟨rfl, g3⟩
  have H3 := Lib.hid (And.intro (H2.out.1.gr0 g3) (H2.out.2.next0 g3))
  clear g3 H2
  go_wp2_with fail
  rw [hK]
  refine (ecut_yes T T.length K aL cL w3 H3.out.1 HT.out.1 (by have := HS.out; omega)).mono ?_
  rintro e w4 ⟨vF, vR, rfl, sF, sR, g4⟩
  have HFS := Lib.hid (sum_first HT.out.1 (k := K) (by have := HS.out; omega))
  have HSP := Lib.hid (split_ok (l := T) (n := (K : Int)) (B := 65536) (by omega) HT.out.1.all HT.out.1.apart)
  have HFG := Lib.hid (fun i (hi : i < K) => first_get HT.out.1 hi)
  have HSR := Lib.hid (sum_solid (restP T K))
  obtain ⟨F, hF⟩ : ∃ F, F = firstP T K := ⟨_, rfl⟩
  obtain ⟨R, hR⟩ : ∃ R, R = (restP T K).filter solidB := ⟨_, rfl⟩
  have HRA := Lib.hid (show R.length ≤ 20 ∧ ∀ e ∈ R, 1 ≤ e.2 ∧ e.2 ≤ 65536 by
    rw [hR]
    refine ⟨?_, fun e he => ?_⟩
    · have := List.length_filter_le solidB (restP T K)
      have := HSP.out.2.2.2.2.2.1
      omega
    · have := HSP.out.2.1 e (List.mem_filter.1 he).1; omega)
  rw [← hF] at sF HFS HFG HSP
  rw [← hR] at sR HSR
  obtain ⟨aF, cF, rfl, rF, -, -, -⟩ := id sF
  obtain ⟨aR, cR, rfl, rR, -, -, -⟩ := id sR
  have H4 := Lib.hid (And.intro (H3.out.1.gr0 g4) (And.intro rF (And.intro rR (H3.out.2.next0 g4))))
  clear g4 H3 sF sR rF rR hF hR
  obtain ⟨hf, hhf⟩ : ∃ z, z = heldZ F := ⟨_, rfl⟩
  obtain ⟨ht, hht⟩ : ∃ z, z = heldZ T := ⟨_, rfl⟩
  have HHF := Lib.hid hhf
  have HHT := Lib.hid hht
  have HSUM := Lib.hid (show hf + sumZ R = ht by rw [hhf, hht, HSR.out]; exact HSP.out.2.2.2.2.2.2.2)
  have hwt : IntKind.i64.wrap ht = ht := IntWalk.i64_in _ (by
    have := (small_sum (l := T) (fun e he => ⟨(HT.out.1.all e he).2.2.1, (HT.out.1.all e he).2.2.2⟩) T.length).2.2
    rw [List.take_length] at this
    omega)
  clear hhf hht
  go_wp2_with fail
  refine (ewakes15 w4).mono ?_
  rintro e w5 ⟨rfl, g5⟩
  have H5 := Lib.hid (And.intro (H4.out.1.gr0 g5) (And.intro (H4.out.2.1.gr0 g5) (And.intro (H4.out.2.2.1.gr0 g5) (H4.out.2.2.2.next0 g5))))
  clear g5 H4
  go_wp2_with fail
  refine (eblocks_any F F.length K aF cF w5 H5.out.2.1 rfl HFS.out.2.small HFS.out.1.symm).mono ?_
  rintro e w6 ⟨rfl, g6⟩
  have H6 := Lib.hid (And.intro (H5.out.1.gr0 g6) (And.intro (H5.out.2.1.gr0 g6) (And.intro (H5.out.2.2.1.gr0 g6) (H5.out.2.2.2.next0 g6))))
  clear g6 H5
  go_wp2_with fail
  refine (eright_yes F F.length aF cF w6 H6.out.2.1 rfl HFS.out.2).mono ?_
  rintro e w7 ⟨rfl, g7⟩
  have H7 := Lib.hid (And.intro (H6.out.1.gr0 g7) (And.intro (H6.out.2.1.gr0 g7) (And.intro (H6.out.2.2.1.gr0 g7) (H6.out.2.2.2.next0 g7))))
  clear g7 H6
  go_wp2_with fail
  -- loop 1: what is free
  go_loopw [13, 73] (fun s i wr => ∃ k : Nat, k ≤ R.length ∧ i = .int .i64 k ∧ s = .int .i64 (sumZ (R.take k)) ∧ Gr [] w7 wr) (fun _ i _ => R.length - (intOf i).toNat)
  case atStart => exact ⟨0, by omega, rfl, rfl, Gr.refl _ _⟩
  case round =>
    obtain ⟨k, hk, rfl, rfl, G⟩ := hrel
    by_cases hkR : k < R.length
    · have hkR2 : (k : Int) < (R.length : Int) := by omega
      obtain ⟨⟨e1, e2⟩, he⟩ : ∃ e, R[k]? = some e := ⟨_, List.getElem?_eq_getElem hkR⟩
      obtain ⟨b, o, hao, hb, x0, x1⟩ := H7.out.2.2.1 k _ he
      subst hao
      have y0 : wr.cell? ⟨b, o + k * 2, none⟩ = some (.int .i64 e1) := (G.cell0 hb).trans x0
      have y1 : wr.cell? ⟨b, o + k * 2 + 1, none⟩ = some (.int .i64 e2) := (G.cell0 hb).trans x1
      have HGA := Lib.hid (G.alloc (Obj.cells #[.int .i64 e1, .int .i64 e2] 35))
      have z0 := (Holds.new wr #[.int .i64 e1, .int .i64 e2] 35).cell 0
      have z1 := (Holds.new wr #[.int .i64 e1, .int .i64 e2] 35).cell 1
      have hm := HRA.out.2 _ (List.mem_of_getElem? he)
      have HST := Lib.hid (sumZ_take he)
      have hsb := small_sum HRA.out.2 k
      have hR20 := HRA.out.1
      simp only at hm
      obtain ⟨s1, hs1⟩ : ∃ s1, s1 = sumZ (R.take k) := ⟨_, rfl⟩
      rw [← hs1] at hsb ⊢
      have hw1 : IntKind.i64.wrap (s1 + e2) = s1 + e2 := IntWalk.i64_in _ (by omega)
      have HS1 := Lib.hid hs1
      clear x0 x1 he G hsb hm hs1
      go_wp2_with fail
      go_roundw
      case rel => exact ⟨k + 1, by omega, by go_num, by rw [HST.out, HS1.out], HGA.out⟩
      case measure => simp [intOf]; omega
    · obtain rfl : k = R.length := by omega
      rw [List.take_length]
      have H8 := Lib.hid (And.intro (H7.out.1.gr0 G) (And.intro (H7.out.2.1.gr0 G) (H7.out.2.2.2.next0 G)))
      clear G H7
      obtain ⟨sr, hsr⟩ : ∃ sr, sr = sumZ R := ⟨_, rfl⟩
      rw [← hsr] at HSUM ⊢
      clear hsr
      have hsum := HSUM.out
      have hw2 : IntKind.i64.wrap (hf + sr) = ht := by rw [hsum]; exact hwt
      have hw3 : hf + sr = ht := hsum
      clear hsum
      go_wp2_with fail
      refine (eheld_any F F.length hf aF cF _ H8.out.2.1 rfl HFS.out.2.small HHF.out).mono ?_
      rintro e w9 ⟨rfl, g9⟩
      have H9 := Lib.hid (And.intro (H8.out.1.gr0 g9) (And.intro (H8.out.2.1.gr0 g9) (H8.out.2.2.next0 g9)))
      clear g9 H8
      go_wp2_with fail
      refine (eheld_any T T.length ht aL cL _ (sl2_parts H9.out.1).2.1 rfl HT.out.1.small HHT.out).mono ?_
      rintro e w10 ⟨rfl, g10⟩
      have H10 := Lib.hid (And.intro (H9.out.1.gr0 g10) (And.intro (H9.out.2.1.gr0 g10) (H9.out.2.2.next0 g10)))
      clear g10 H9
      go_wp2_with fail
      -- loop 2: where the first ones are
      go_loopw [90] (fun i wr => ∃ k : Nat, k ≤ K ∧ i = .int .i64 k ∧ Gr [] w10 wr) (fun i _ => K - (intOf i).toNat)
      case atStart => exact ⟨0, by omega, rfl, Gr.refl _ _⟩
      case round =>
        obtain ⟨k, hk, rfl, G⟩ := hrel
        by_cases hkK : k < K
        · have hkK2 : (k : Int) < (K : Int) := by omega
          obtain ⟨z, hz⟩ : ∃ z, (blk T)[k]? = some z := ⟨_, List.getElem?_eq_getElem (by have := HBL.out; omega)⟩
          have HZ := Lib.hid hz
          have HG := Lib.hid G
          have HZF := Lib.hid ((HFG.out k hkK).trans hz)
          clear hz G
          go_wp2_with fail
          refine (emap_get F F.length k aF cF wr z (H10.out.2.1.gr0 HG.out) rfl HFS.out.2.small (by omega) HZF.out).mono ?_
          rintro e wa ⟨rfl, ga⟩
          have HG2 := Lib.hid (HG.out.next0 ga)
          clear ga HG
          go_wp2_with fail
          refine (emap_get T T.length k aL cL wa z ((sl2_parts H10.out.1).2.1.gr0 HG2.out) rfl HT.out.1.small (by omega) HZ.out).mono ?_
          rintro e wb ⟨rfl, gb⟩
          have HG3 := Lib.hid (HG2.out.next0 gb)
          clear gb HG2
          go_wp2_with fail
          go_roundw
          case rel => exact ⟨k + 1, by omega, by go_num, HG3.out⟩
          case measure => simp [intOf]; omega
        · obtain rfl : k = K := by omega
          have H11 := Lib.hid (And.intro (H10.out.1.gr0 G) (H10.out.2.2.next0 G))
          clear G H10
          obtain ⟨A1, hA1⟩ : ∃ A, 1000 + y = A := ⟨_, rfl⟩
          obtain ⟨A2, hA2⟩ : ∃ A, 2000 + y = A := ⟨_, rfl⟩
          have hwA1 : IntKind.i64.wrap A1 = A1 := IntWalk.i64_in _ (by omega)
          have hwA2 : IntKind.i64.wrap A2 = A2 := IntWalk.i64_in _ (by omega)
          have hbA1 : 1000 ≤ A1 ∧ A1 ≤ 2000 := by omega
          have hbA2 : 2000 ≤ A2 ∧ A2 ≤ 3000 := by omega
          go_wp2_with fail
          refine (eappend_far T A1 T.length aL cL _ H11.out.1 HT.out.1 HT.out.2.1 HT.out.2.2.1 HT.out.2.2.2 hbA1.1 hbA1.2).mono ?_
          rintro e w12 ⟨aB, cB, rfl, sB, rB, g12⟩
          have H12 := Lib.hid (And.intro (H11.out.1.gr0 g12) (And.intro sB (H11.out.2.next0 g12)))
          have HRB := Lib.hid rB
          have HBS := Lib.hid (show sumZ (T ++ [(A1, 2)]) = (S : Int) + 2 by rw [sumZ_append]; have := HS.out; simp [sumZ]; omega)
          have HRE := Lib.hid (show (restP (T ++ [(A1, 2)]) S).filter solidB = [(A1, 2)] by
            rw [HS.out, rest_all (fun e he => (HT.out.1.all e he).2.2.1) (by simp), List.filter_cons]
            have : solidB (A1, 2) = true := by unfold solidB; simp; omega
            rw [if_pos this]; rfl)
          obtain ⟨B, hB⟩ : ∃ B, B = T ++ [(A1, 2)] := ⟨_, rfl⟩
          rw [← hB] at H12 HRB HBS HRE ⊢
          clear sB rB g12 hB H11
          go_wp2_with fail
          refine (eblocks_any T T.length S aL cL _ (sl2_parts H12.out.1).2.1 rfl HT.out.1.small HS.out).mono ?_
          rintro e w13 ⟨rfl, g13⟩
          have H13 := Lib.hid (And.intro (H12.out.1.gr0 g13) (And.intro (H12.out.2.1.gr0 g13) (H12.out.2.2.next0 g13)))
          clear g13 H12
          go_wp2_with fail
          refine (ecut_yes B B.length S aB cB w13 H13.out.2.1 HRB.out (by have := HBS.out; omega)).mono ?_
          rintro e w14 ⟨vC, vQ, rfl, sC, sQ, g14⟩
          rw [HRE.out] at sQ
          have HCS := Lib.hid (sum_first HRB.out (k := S) (by have := HBS.out; omega))
          obtain ⟨C, hC⟩ : ∃ C, C = firstP B S := ⟨_, rfl⟩
          rw [← hC] at sC HCS
          obtain ⟨aC, cC, rfl, rC, -, -, -⟩ := id sC
          obtain ⟨aQ, cQ, rfl, rQ, -, -, -⟩ := id sQ
          have H14 := Lib.hid (And.intro (H13.out.1.gr0 g14) (And.intro rC (And.intro rQ (H13.out.2.2.next0 g14))))
          clear g14 H13 sC sQ rC rQ hC
          go_wp2_with fail
          refine (eblocks_any C C.length S aC cC w14 H14.out.2.1 rfl HCS.out.2.small HCS.out.1.symm).mono ?_
          rintro e w15 ⟨rfl, g15⟩
          have H15 := Lib.hid (And.intro (H14.out.1.gr0 g15) (And.intro (H14.out.2.2.1.gr0 g15) (H14.out.2.2.2.next0 g15)))
          clear g15 H14
          go_wp2_with fail
          refine (eblocks_any T T.length S aL cL _ (sl2_parts H15.out.1).2.1 rfl HT.out.1.small HS.out).mono ?_
          rintro e w16 ⟨rfl, g16⟩
          have H16 := Lib.hid (And.intro (H15.out.1.gr0 g16) (And.intro (H15.out.2.1.gr0 g16) (H15.out.2.2.next0 g16)))
          clear g16 H15
          obtain ⟨bq, oq, haq, hbq, q0, q1⟩ := H16.out.2.1 0 _ rfl
          subst haq
          go_wp2_with fail
          refine (eblocks_any T T.length S aL cL _ (sl2_parts H16.out.1).2.1 rfl HT.out.1.small HS.out).mono ?_
          rintro e w17 ⟨rfl, g17⟩
          have H17 := Lib.hid (And.intro (H16.out.1.gr0 g17) (H16.out.2.2.next0 g17))
          clear g17 H16 q0 q1
          go_wp2_with fail
          -- loop 3: each block filled
          go_loopw [151] (fun i wr => ∃ k : Nat, k ≤ S ∧ i = .int .i64 k ∧ Gr [] w17 wr) (fun i _ => S - (intOf i).toNat)
          case atStart => exact ⟨0, by omega, rfl, Gr.refl _ _⟩
          case round =>
            obtain ⟨i, hi, rfl, G⟩ := hrel
            by_cases hiS : i < S
            · have hiS2 : (i : Int) < (S : Int) := by omega
              obtain ⟨z, hz⟩ : ∃ z, (blk T)[i]? = some z := ⟨_, List.getElem?_eq_getElem (by have := HBL.out; omega)⟩
              have HZ := Lib.hid hz
              have HG := Lib.hid (And.intro (H17.out.1.gr0 G) (H17.out.2.next0 G))
              have HG0 := Lib.hid G
              have HHA := Lib.hid (held_at HT.out.1 hz)
              have HFB := Lib.hid (fun j => fill_blk HT.out.1 i (A := A2) (by omega) j (by have := HBL.out; omega))
              clear hz G
              go_wp2_with fail
              refine (emap_get T T.length i aL cL wr z (sl2_parts HG.out.1).2.1 rfl HT.out.1.small (by omega) HZ.out).mono ?_
              rintro e wa ⟨rfl, ga⟩
              have HGA := Lib.hid (And.intro (HG.out.1.gr0 ga) (HG0.out.next0 ga))
              clear ga HG HG0
              go_wp2_with fail
              refine (efill_ok T T.length i 1 A2 aL cL wa HGA.out.1 HT.out.1 (by omega) (by omega) (by omega) (by have := HS.out; omega)).mono ?_
              rintro e wb ⟨gb, H⟩
              rw [HHA.out] at H
              by_cases hz1 : z = -1
              · subst hz1
                rcases H with ⟨h, _⟩ | ⟨_, _, rfl⟩ | ⟨_, hrc, aM, cM, rfl, sM⟩
                · simp at h
                · have HGB := Lib.hid (HGA.out.2.next0 gb)
                  clear gb
                  go_wp2_with fail
                  go_roundw
                  case rel => exact ⟨i + 1, by omega, by go_num, HGB.out⟩
                  case measure => simp [intOf]; omega
                · obtain ⟨M, hM⟩ : ∃ M, M = joinP (fillP T i 1 A2) := ⟨_, rfl⟩
                  rw [← hM] at hrc sM HFB ⊢
                  have HGB := Lib.hid (And.intro (HGA.out.1.gr0 gb) (And.intro sM (HGA.out.2.next0 gb)))
                  have HRM := Lib.hid hrc
                  clear gb hrc sM hM
                  go_wp2_with fail
                  refine (eblocks_any T T.length S aL cL _ (sl2_parts HGB.out.1).2.1 rfl HT.out.1.small HS.out).mono ?_
                  rintro e wc ⟨rfl, gc⟩
                  have HGC := Lib.hid (And.intro (HGB.out.1.gr0 gc) (And.intro (HGB.out.2.1.gr0 gc) (HGB.out.2.2.next0 gc)))
                  clear gc HGB
                  go_wp2_with fail
                  go_loopw [180] (fun q wr => ∃ j : Nat, j ≤ S ∧ q = .int .i64 j ∧ Gr [] wc wr) (fun q _ => S - (intOf q).toNat)
                  case atStart => exact ⟨0, by omega, rfl, Gr.refl _ _⟩
                  case round =>
                    obtain ⟨j, hj, rfl, G⟩ := hrel
                    by_cases hjS : j < S
                    · have hjS2 : (j : Int) < (S : Int) := by omega
                      obtain ⟨z2, hz2⟩ : ∃ z, (blk T)[j]? = some z := ⟨_, List.getElem?_eq_getElem (by have := HBL.out; omega)⟩
                      have HZ2 := Lib.hid hz2
                      have HGD := Lib.hid (And.intro (HGC.out.1.gr0 G) (And.intro (HGC.out.2.1.gr0 G) G))
                      clear hz2 G
                      have HFJ := Lib.hid (HFB.out j)
                      go_wp2_with fail
                      refine (emap_get T T.length j aL cL wr z2 (sl2_parts HGD.out.1).2.1 rfl HT.out.1.small (by omega) HZ2.out).mono ?_
                      rintro e wd ⟨rfl, gd⟩
                      have HGE := Lib.hid (And.intro (HGD.out.2.1.gr0 gd) (HGD.out.2.2.next0 gd))
                      clear gd HGD
                      go_wp2_with fail
                      by_cases hji : j = i
                      · subst hji
                        rw [if_pos rfl] at HFJ
                        refine (emap_get M M.length j aM cM wd A2 (sl2_parts HGE.out.1).2.1 rfl HRM.out.small (by omega) HFJ.out).mono ?_
                        rintro e we ⟨rfl, ge⟩
                        have HGF := Lib.hid (HGE.out.2.next0 ge)
                        clear ge HGE
                        go_wp2_with fail
                        go_roundw
                        case rel => exact ⟨j + 1, by omega, by go_num, HGF.out⟩
                        case measure => simp [intOf]; omega
                      · rw [if_neg hji, HZ2.out] at HFJ
                        refine (emap_get M M.length j aM cM wd z2 (sl2_parts HGE.out.1).2.1 rfl HRM.out.small (by omega) HFJ.out).mono ?_
                        rintro e we ⟨rfl, ge⟩
                        have HGF := Lib.hid (HGE.out.2.next0 ge)
                        have hd1 : ((j : Int) == (i : Int)) = false := by simp; omega
                        have hd2 : ¬ (j : Int) = (i : Int) := by omega
                        clear ge HGE
                        go_wp2_with fail
                        go_roundw
                        case rel => exact ⟨j + 1, by omega, by go_num, HGF.out⟩
                        case measure => simp [intOf]; omega
                    · obtain rfl : j = S := by omega
                      have HGZ := Lib.hid (HGC.out.2.2.next0 G)
                      clear G
                      go_wp2_with fail
                      go_roundw
                      case rel => exact ⟨i + 1, by omega, by go_num, HGZ.out⟩
                      case measure => simp [intOf]; omega
              · rcases H with ⟨_, rfl⟩ | ⟨h, _, _⟩ | ⟨h, _⟩
                · have HGB := Lib.hid (HGA.out.2.next0 gb)
                  have hd1 : (z == -1) = false := by simp [hz1]
                  clear gb
                  go_wp2_with fail
                  go_roundw
                  case rel => exact ⟨i + 1, by omega, by go_num, HGB.out⟩
                  case measure => simp [intOf]; omega
                · rw [if_neg hz1] at h; omega
                · rw [if_neg hz1] at h; omega
            · obtain rfl : i = S := by omega
              have HGZ := Lib.hid (H17.out.2.next0 G)
              clear G
              go_wp2_with fail
              go_ret
              exact ⟨rfl, HGZ.out⟩

theorem walk_ExtBack (v0 : Value) (a1 a2 : Int) {w : World} (s0 : SlN 2 w v0) (w1 : (Lit.int .u16 a1).wf = true) (w2 : (Lit.int .u8 a2).wf = true) :
    Calls Try.prog 12 #[v0, .int .u16 a1, .int .u8 a2] w fun e w' => e = .returned (.bool true) ∧ Below w.heap.size w w' := by
  have b1 := bounds_u16 w1
  have b2 := bounds_u8 w2
  exact (eback_any v0 a1 a2 w s0 b1.1 b1.2 b2.1 b2.2).mono fun e w' q => ⟨q.1, q.2.below0⟩

end Go.Proofs.Ytpkhfdcokcchdaa
