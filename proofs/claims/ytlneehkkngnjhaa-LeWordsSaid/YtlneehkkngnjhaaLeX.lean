/-
  The walk of LeWords.
-/
import Derived.Test.YtlneehkkngnjhaaLeW
namespace Go.Proofs.Ytlneehkkngnjhaa
open Go.RowKit

theorem wdL_lt (l : List UInt8) (k : Nat) : wdL l k < 18446744073709551616 := by
  unfold wdL
  have h := getL_lt ((l.drop (8 * k)).take 8)
  have hl : ((l.drop (8 * k)).take 8).length ≤ 8 := by simp; omega
  have := Nat.pow_le_pow_right (show 0 < 256 by omega) hl
  omega
theorem text_wd (s : ByteArray) (h : s.size = 64) (w : World) :
    Calls Try.prog 21 #[.agg #[Value.int IntKind.u64 (wdL s.data.toList 0), Value.int IntKind.u64 (wdL s.data.toList 1), Value.int IntKind.u64 (wdL s.data.toList 2), Value.int IntKind.u64 (wdL s.data.toList 3), Value.int IntKind.u64 (wdL s.data.toList 4), Value.int IntKind.u64 (wdL s.data.toList 5), Value.int IntKind.u64 (wdL s.data.toList 6), Value.int IntKind.u64 (wdL s.data.toList 7)]] w fun e w' => e = .returned (.string s) ∧ Below w.heap.size w w' := by
  have e : catL [wdL s.data.toList 0, wdL s.data.toList 1, wdL s.data.toList 2, wdL s.data.toList 3, wdL s.data.toList 4, wdL s.data.toList 5, wdL s.data.toList 6, wdL s.data.toList 7] = s.data.toList := cat_wdL 8 s.data.toList (by rw [Array.length_toList]; exact h)
  have ht := text_any (wdL s.data.toList 0) (wdL s.data.toList 1) (wdL s.data.toList 2) (wdL s.data.toList 3) (wdL s.data.toList 4) (wdL s.data.toList 5) (wdL s.data.toList 6) (wdL s.data.toList 7) (by intro n hn; simp only [List.mem_cons, List.not_mem_nil, or_false] at hn; rcases hn with rfl | rfl | rfl | rfl | rfl | rfl | rfl | rfl <;> exact wdL_lt _ _) w
  rw [e] at ht
  simpa using ht
theorem words_cat (n0 n1 n2 n3 n4 n5 n6 n7 : Nat) (hb : ∀ n ∈ [n0, n1, n2, n3, n4, n5, n6, n7], n < 18446744073709551616) (w : World) :
    Calls Try.prog 20 #[.string ⟨(catL [n0, n1, n2, n3, n4, n5, n6, n7]).toArray⟩] w fun e w' => e = .returned (.tuple #[.agg #[.int .u64 n0, .int .u64 n1, .int .u64 n2, .int .u64 n3, .int .u64 n4, .int .u64 n5, .int .u64 n6, .int .u64 n7], .int .i64 0]) ∧ Below w.heap.size w w' := by
  have h := words_yes ⟨(catL [n0, n1, n2, n3, n4, n5, n6, n7]).toArray⟩ w (by rw [size_is, catL_length]; rfl)
  have hw := wdL_all [n0, n1, n2, n3, n4, n5, n6, n7] hb
  simp only [List.toList_toArray] at h
  rw [hw 0 n0 rfl, hw 1 n1 rfl, hw 2 n2 rfl, hw 3 n3 rfl, hw 4 n4 rfl, hw 5 n5 rfl, hw 6 n6 rfl, hw 7 n7 rfl] at h
  exact h

theorem eq8 (x0 x1 x2 x3 x4 x5 x6 x7 : Int) (W : World) : (Op.equalIn 10000 28 (.agg #[.int .u64 x0, .int .u64 x1, .int .u64 x2, .int .u64 x3, .int .u64 x4, .int .u64 x5, .int .u64 x6, .int .u64 x7]) (.agg #[.int .u64 x0, .int .u64 x1, .int .u64 x2, .int .u64 x3, .int .u64 x4, .int .u64 x5, .int .u64 x6, .int .u64 x7])).run Try.prog W = .ok true W := by
  have u3 := Try.underlying22
  have a3 := Try.isAgg22
  have z3 := Try.sizeOf22
  rw [show (10000 : Nat) = 9999 + 1 from rfl, Op.equalIn]
  simp only [Sem.run_bind, run_underlying Try.underlying28, Result.andThen_ok]
  simp only [Std.Legacy.Range.forIn_eq_forIn_range', Std.Legacy.Range.size, Nat.sub_zero, Nat.add_sub_cancel, Nat.div_one, List.range'_succ, List.range'_zero, List.forIn_cons, List.forIn_nil]
  go_simp

set_option maxRecDepth 100000 in
set_option maxHeartbeats 2000000 in
theorem walk_LeWords (a0 : List Int) (a1 : ByteArray) (l0 : a0.length = 8) (w0 : ∀ x ∈ a0, (Lit.int .u64 x).wf = true) (w1 : a1.size ≤ maxLen) (_ : a1.size ≤ reachBytes) (w : World) :
    Calls Try.prog 4 #[.agg (a0.map (Value.int .u64)).toArray, .string a1] w fun e w' => e = .returned (.bool true) ∧ Below w.heap.size w w' := by
  match a0, l0, w0 with
  | [x0, x1, x2, x3, x4, x5, x6, x7], _, w0 =>
    obtain ⟨n0, rfl, b0⟩ := nat_u64 (w0 x0 (by simp))
    obtain ⟨n1, rfl, b1⟩ := nat_u64 (w0 x1 (by simp))
    obtain ⟨n2, rfl, b2⟩ := nat_u64 (w0 x2 (by simp))
    obtain ⟨n3, rfl, b3⟩ := nat_u64 (w0 x3 (by simp))
    obtain ⟨n4, rfl, b4⟩ := nat_u64 (w0 x4 (by simp))
    obtain ⟨n5, rfl, b5⟩ := nat_u64 (w0 x5 (by simp))
    obtain ⟨n6, rfl, b6⟩ := nat_u64 (w0 x6 (by simp))
    obtain ⟨n7, rfl, b7⟩ := nat_u64 (w0 x7 (by simp))
    have HBD := Lib.hid (show ∀ n ∈ [n0, n1, n2, n3, n4, n5, n6, n7], n < 18446744073709551616 by
      intro n hn
      simp only [List.mem_cons, List.not_mem_nil, or_false] at hn
      rcases hn with rfl | rfl | rfl | rfl | rfl | rfl | rfl | rfl <;> assumption)
    clear w0 b0 b1 b2 b3 b4 b5 b6 b7
    have HT := Lib.hid (text_any n0 n1 n2 n3 n4 n5 n6 n7 HBD.out)
    have HW := Lib.hid (words_cat n0 n1 n2 n3 n4 n5 n6 n7 HBD.out)
    show Calls Try.prog 4 #[.agg #[.int .u64 n0, .int .u64 n1, .int .u64 n2, .int .u64 n3, .int .u64 n4, .int .u64 n5, .int .u64 n6, .int .u64 n7], .string a1] w fun e w' => e = .returned (.bool true) ∧ Below w.heap.size w w'
    go_enter Try.func4, Try.ntmps4
    go_wp2_with fail
    have X1 := Holds.new w #[Value.int IntKind.u64 n0, Value.int IntKind.u64 n1, Value.int IntKind.u64 n2, Value.int IntKind.u64 n3, Value.int IntKind.u64 n4, Value.int IntKind.u64 n5, Value.int IntKind.u64 n6, Value.int IntKind.u64 n7] 28
    have B1 := below_new (Below.refl _ w) (Obj.cells #[Value.int IntKind.u64 n0, Value.int IntKind.u64 n1, Value.int IntKind.u64 n2, Value.int IntKind.u64 n3, Value.int IntKind.u64 n4, Value.int IntKind.u64 n5, Value.int IntKind.u64 n6, Value.int IntKind.u64 n7] 28)
    generalize w.alloc (Obj.cells #[Value.int IntKind.u64 n0, Value.int IntKind.u64 n1, Value.int IntKind.u64 n2, Value.int IntKind.u64 n3, Value.int IntKind.u64 n4, Value.int IntKind.u64 n5, Value.int IntKind.u64 n6, Value.int IntKind.u64 n7] 28) = wa at *
    go_loopw [5, 13] (fun v i wr => ∃ (k : Nat) (S : ByteArray), k ≤ 8 ∧ i = .int .i64 k ∧ v = .string S ∧ S = ⟨(catL ([n0, n1, n2, n3, n4, n5, n6, n7].take k)).toArray⟩ ∧ S.size = 8 * k ∧ Holds wr w.heap.size #[Value.int IntKind.u64 n0, Value.int IntKind.u64 n1, Value.int IntKind.u64 n2, Value.int IntKind.u64 n3, Value.int IntKind.u64 n4, Value.int IntKind.u64 n5, Value.int IntKind.u64 n6, Value.int IntKind.u64 n7] 28 ∧ Below w.heap.size w wr) (fun _ i _ => 8 - (intOf i).toNat)
    case atStart => exact ⟨0, ⟨#[]⟩, by omega, rfl, rfl, rfl, rfl, X1, B1⟩
    case round =>
      clear X1 B1
      obtain ⟨k, S, hk, rfl, rfl, hS, hz, X1, B1⟩ := hrel
      have HS := Lib.hid hS
      clear hS
      by_cases hlt : k < 8
      · obtain ⟨n, hn⟩ : ∃ n, [n0, n1, n2, n3, n4, n5, n6, n7][k]? = some n := ⟨_, List.getElem?_eq_getElem (by simpa using hlt)⟩
        have hnb : n < 18446744073709551616 := HBD.out n (List.mem_of_getElem? hn)
        have hix := index8 n0 n1 n2 n3 n4 n5 n6 n7 k n hn
        have HN := Lib.hid hn
        clear hn
        go_wp2_with fail
        refine (rput_any n 8 _ hnb (by omega) (by omega)).mono ?_
        rintro e w2 ⟨rfl, hb2⟩
        rw [show clamp8 8 = 8 from rfl]
        have hz8 : (ByteArray.mk (putL n 8).toArray).size = 8 := by rw [size_is, putL_length]
        have hcat : S ++ (ByteArray.mk (putL n 8).toArray) = ⟨(catL ([n0, n1, n2, n3, n4, n5, n6, n7].take (k + 1))).toArray⟩ := by rw [HS.out]; exact catL_str _ _ _ HN.out
        have hcz : (S ++ (ByteArray.mk (putL n 8).toArray)).size = 8 * (k + 1) := by rw [ByteArray.size_append, hz, hz8]; omega
        have RR := Lib.hid (And.intro hcat (And.intro hcz (And.intro (X1.below hb2) (below_next B1 hb2))))
        generalize ByteArray.mk (putL n 8).toArray = P at *
        clear hcat hcz X1 B1 hb2 hix
        go_wp2
        go_roundw
        case rel => exact ⟨k + 1, _, by omega, by go_num, rfl, RR.out.1, RR.out.2.1, RR.out.2.2.1, RR.out.2.2.2⟩
        case measure => simp [intOf]; omega
      · obtain rfl : k = 8 := by omega
        have HW2 := Lib.hid (show ∀ w, Calls Try.prog 20 #[.string S] w fun e w' => e = .returned (.tuple #[.agg #[.int .u64 n0, .int .u64 n1, .int .u64 n2, .int .u64 n3, .int .u64 n4, .int .u64 n5, .int .u64 n6, .int .u64 n7], .int .i64 0]) ∧ Below w.heap.size w w' by rw [HS.out]; exact HW.out)
        have HT2 := Lib.hid (show ∀ w, Calls Try.prog 21 #[.agg #[.int .u64 n0, .int .u64 n1, .int .u64 n2, .int .u64 n3, .int .u64 n4, .int .u64 n5, .int .u64 n6, .int .u64 n7]] w fun e w' => e = .returned (.string S) ∧ Below w.heap.size w w' by rw [HS.out]; exact HT.out)
        clear HS HT HW
        go_wp2_with fail
        refine (HW2.out _).mono ?_
        rintro e w2 ⟨rfl, hb2⟩
        have X2 := (X1.below hb2).alloc (Obj.cells #[Value.int IntKind.u64 n0, Value.int IntKind.u64 n1, Value.int IntKind.u64 n2, Value.int IntKind.u64 n3, Value.int IntKind.u64 n4, Value.int IntKind.u64 n5, Value.int IntKind.u64 n6, Value.int IntKind.u64 n7] 28)
        have Y2 := Holds.new w2 #[Value.int IntKind.u64 n0, Value.int IntKind.u64 n1, Value.int IntKind.u64 n2, Value.int IntKind.u64 n3, Value.int IntKind.u64 n4, Value.int IntKind.u64 n5, Value.int IntKind.u64 n6, Value.int IntKind.u64 n7] 28
        have B2 := below_new (below_next B1 hb2) (Obj.cells #[Value.int IntKind.u64 n0, Value.int IntKind.u64 n1, Value.int IntKind.u64 n2, Value.int IntKind.u64 n3, Value.int IntKind.u64 n4, Value.int IntKind.u64 n5, Value.int IntKind.u64 n6, Value.int IntKind.u64 n7] 28)
        clear X1 B1 hb2
        by_cases h64 : a1.size = 64
        · go_wp2_with fail
          refine (words_yes a1 _ h64).mono ?_
          rintro e w3 ⟨rfl, hb3⟩
          have X3 := (X2.below hb3).alloc (Obj.cells #[Value.int IntKind.u64 (wdL a1.data.toList 0), Value.int IntKind.u64 (wdL a1.data.toList 1), Value.int IntKind.u64 (wdL a1.data.toList 2), Value.int IntKind.u64 (wdL a1.data.toList 3), Value.int IntKind.u64 (wdL a1.data.toList 4), Value.int IntKind.u64 (wdL a1.data.toList 5), Value.int IntKind.u64 (wdL a1.data.toList 6), Value.int IntKind.u64 (wdL a1.data.toList 7)] 28)
          have Y3 := (Y2.below hb3).alloc (Obj.cells #[Value.int IntKind.u64 (wdL a1.data.toList 0), Value.int IntKind.u64 (wdL a1.data.toList 1), Value.int IntKind.u64 (wdL a1.data.toList 2), Value.int IntKind.u64 (wdL a1.data.toList 3), Value.int IntKind.u64 (wdL a1.data.toList 4), Value.int IntKind.u64 (wdL a1.data.toList 5), Value.int IntKind.u64 (wdL a1.data.toList 6), Value.int IntKind.u64 (wdL a1.data.toList 7)] 28)
          have U3 := Holds.new w3 #[Value.int IntKind.u64 (wdL a1.data.toList 0), Value.int IntKind.u64 (wdL a1.data.toList 1), Value.int IntKind.u64 (wdL a1.data.toList 2), Value.int IntKind.u64 (wdL a1.data.toList 3), Value.int IntKind.u64 (wdL a1.data.toList 4), Value.int IntKind.u64 (wdL a1.data.toList 5), Value.int IntKind.u64 (wdL a1.data.toList 6), Value.int IntKind.u64 (wdL a1.data.toList 7)] 28
          have B3 := below_new (below_next B2 hb3) (Obj.cells #[Value.int IntKind.u64 (wdL a1.data.toList 0), Value.int IntKind.u64 (wdL a1.data.toList 1), Value.int IntKind.u64 (wdL a1.data.toList 2), Value.int IntKind.u64 (wdL a1.data.toList 3), Value.int IntKind.u64 (wdL a1.data.toList 4), Value.int IntKind.u64 (wdL a1.data.toList 5), Value.int IntKind.u64 (wdL a1.data.toList 6), Value.int IntKind.u64 (wdL a1.data.toList 7)] 28)
          clear X2 Y2 B2 hb3
          go_wp2_with fail
          refine (wakes1_any _).mono ?_
          rintro e w4 ⟨rfl, hb4⟩
          have X4 := X3.below hb4
          have Y4 := Y3.below hb4
          have U4 := U3.below hb4
          have B4 := below_next B3 hb4
          clear X3 Y3 U3 B3 hb4
          obtain ⟨c0, c1, c2, c3, c4, c5, c6, c7⟩ := X4.eight
          go_wp2_with fail
          refine (HT2.out _).mono ?_
          rintro e w5 ⟨rfl, hb5⟩
          have X5 := X4.below hb5
          have Y5 := Y4.below hb5
          have U5 := U4.below hb5
          have B5 := below_next B4 hb5
          clear X4 Y4 U4 B4 hb5 c0 c1 c2 c3 c4 c5 c6 c7
          obtain ⟨c0, c1, c2, c3, c4, c5, c6, c7⟩ := X5.eight
          obtain ⟨d0, d1, d2, d3, d4, d5, d6, d7⟩ := Y5.eight
          obtain ⟨e0, e1, e2, e3, e4, e5, e6, e7⟩ := U5.eight
          have HW3 := Lib.hid (text_wd a1 h64)
          have hq := eq8 n0 n1 n2 n3 n4 n5 n6 n7
          go_wp2_with fail
          refine (HW3.out _).mono ?_
          rintro e w6 ⟨rfl, hb6⟩
          have HB := Lib.hid (below_next B5 hb6)
          clear X5 Y5 U5 B5 hb6
          go_wp2_with fail
          go_ret
          exact ⟨rfl, HB.out⟩
        · go_wp2_with fail
          refine (words_no a1 _ w1 h64).mono ?_
          rintro e w3 ⟨rfl, hb3⟩
          have X3 := (X2.below hb3).alloc (Obj.cells #[Value.int IntKind.u64 0, Value.int IntKind.u64 0, Value.int IntKind.u64 0, Value.int IntKind.u64 0, Value.int IntKind.u64 0, Value.int IntKind.u64 0, Value.int IntKind.u64 0, Value.int IntKind.u64 0] 28)
          have Y3 := (Y2.below hb3).alloc (Obj.cells #[Value.int IntKind.u64 0, Value.int IntKind.u64 0, Value.int IntKind.u64 0, Value.int IntKind.u64 0, Value.int IntKind.u64 0, Value.int IntKind.u64 0, Value.int IntKind.u64 0, Value.int IntKind.u64 0] 28)
          have U3 := Holds.new w3 #[Value.int IntKind.u64 0, Value.int IntKind.u64 0, Value.int IntKind.u64 0, Value.int IntKind.u64 0, Value.int IntKind.u64 0, Value.int IntKind.u64 0, Value.int IntKind.u64 0, Value.int IntKind.u64 0] 28
          have B3 := below_new (below_next B2 hb3) (Obj.cells #[Value.int IntKind.u64 0, Value.int IntKind.u64 0, Value.int IntKind.u64 0, Value.int IntKind.u64 0, Value.int IntKind.u64 0, Value.int IntKind.u64 0, Value.int IntKind.u64 0, Value.int IntKind.u64 0] 28)
          clear X2 Y2 B2 hb3
          go_wp2_with fail
          refine (wakes1_any _).mono ?_
          rintro e w4 ⟨rfl, hb4⟩
          have X4 := X3.below hb4
          have Y4 := Y3.below hb4
          have U4 := U3.below hb4
          have B4 := below_next B3 hb4
          clear X3 Y3 U3 B3 hb4
          obtain ⟨c0, c1, c2, c3, c4, c5, c6, c7⟩ := X4.eight
          go_wp2_with fail
          refine (HT2.out _).mono ?_
          rintro e w5 ⟨rfl, hb5⟩
          have X5 := X4.below hb5
          have Y5 := Y4.below hb5
          have U5 := U4.below hb5
          have B5 := below_next B4 hb5
          clear X4 Y4 U4 B4 hb5 c0 c1 c2 c3 c4 c5 c6 c7
          obtain ⟨c0, c1, c2, c3, c4, c5, c6, c7⟩ := X5.eight
          obtain ⟨d0, d1, d2, d3, d4, d5, d6, d7⟩ := Y5.eight
          obtain ⟨e0, e1, e2, e3, e4, e5, e6, e7⟩ := U5.eight
          have HB := Lib.hid B5
          have hq := eq8 n0 n1 n2 n3 n4 n5 n6 n7
          have hq0 := eq8 0 0 0 0 0 0 0 0
          clear X5 Y5 U5 B5
          go_wp2_with fail
          go_ret
          exact ⟨rfl, HB.out⟩

end Go.Proofs.Ytlneehkkngnjhaa
