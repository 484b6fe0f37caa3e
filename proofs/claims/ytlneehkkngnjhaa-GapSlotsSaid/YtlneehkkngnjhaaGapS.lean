/-
  The walk of GapSlots.
-/
import Derived.Test.YtlneehkkngnjhaaGapSP
import Derived.Test.YtlneehkkngnjhaaGapE
namespace Go.Proofs.Ytlneehkkngnjhaa
open Go.RowKit

theorem own_keep {w w' : World} {base : Nat} {e : TypeId} {size n : Nat} {v : Value} {xs : List Value} (h : w.ownsRow base e size v n xs) (hb : Below w.heap.size w w') : w'.ownsRow base e size v n xs := by
  refine ⟨h.1, ?_⟩
  rcases h.2 with hn | ⟨g, cap, cur, rfl, hg, hh, rest⟩
  · exact .inl hn
  · exact .inr ⟨g, cap, cur, rfl, hg, (hb.block g (Array.getElem?_eq_some_iff.1 hh).1).trans hh, rest⟩

set_option maxRecDepth 100000 in
set_option maxHeartbeats 2000000 in
theorem walk_GapSlots (a0 : List Int) (a1 : Int) (l0 : a0.length = 3) (w0 : ∀ x ∈ a0, (Lit.int .i64 x).wf = true) (w1 : (Lit.int .i64 a1).wf = true) (w : World) :
    Calls Try.prog 12 #[.agg (a0.map (Value.int .i64)).toArray, .int .i64 a1] w fun e w' => e = .returned (.bool true) ∧ Below w.heap.size w w' := by
  clear w1
  match a0, l0, w0 with
  | [x, y, z], _, w0 =>
    clear w0
    show Calls Try.prog 12 #[.agg #[.int .i64 x, .int .i64 y, .int .i64 z], .int .i64 a1] w fun e w' => e = .returned (.bool true) ∧ Below w.heap.size w w'
    have hN := tN_b x
    have q1 := Int.emod_nonneg (mx y) (show tN x ≠ 0 by omega)
    have q2 := Int.emod_lt_of_pos (mx y) (show 0 < tN x by omega)
    have q3 := Int.emod_nonneg (mx z) (show tN x + 1 ≠ 0 by omega)
    have q4 := Int.emod_lt_of_pos (mx z) (show 0 < tN x + 1 by omega)
    obtain ⟨n, hn⟩ := Int.eq_ofNat_of_zero_le (show 0 ≤ tN x by omega)
    obtain ⟨s, hs⟩ := Int.eq_ofNat_of_zero_le q1
    obtain ⟨g, hg⟩ := Int.eq_ofNat_of_zero_le q3
    have hr : rightS s g n := by rw [← hs, ← hg, ← hn]; unfold rightS; omega
    have n1 : 1 ≤ n := hr.1 |> fun h => by omega
    have n40 : n ≤ 40 := by omega
    have gn : g ≤ n := hr.2.2.2.2.2 |> fun h => by omega
    obtain ⟨N1, hN1⟩ : ∃ N1 : Nat, N1 = n + 1 := ⟨_, rfl⟩
    have bN1 : N1 ≤ 41 := by omega
    have HN1 := Lib.hid hN1
    have HR := Lib.hid hr
    clear q1 q2 q3 q4 hr
    have HEQ := Lib.hid (And.intro hn (And.intro hs hg))
    clear hn hs hg hN
    have hsl := fun w => rslots s g n w HR.out
    rw [← hN1] at hsl
    have HSL := Lib.hid hsl
    clear hsl hN1
    go_enter Try.func12, Try.ntmps12
    go_wp2_with fail
    refine (tame_any x y z _).mono ?_
    rintro e w1 ⟨rfl, hb1⟩
    rw [HEQ.out.2.1, HEQ.out.2.2, HEQ.out.1]
    generalize x % 4294967296 = m at *
    have X1 := (Holds.new w #[.int .i64 x, .int .i64 y, .int .i64 z] 56).below hb1
    have B1 := below_next (below_new (Below.refl _ w) _) hb1
    clear hb1
    have S1 := StB.new w1 s g m
    have X2 := X1.alloc (stC s g m)
    have B2 := below_new B1 (stC s g m)
    have G1 : w.heap.size ≠ w1.heap.size := by have := X1.lt; omega
    clear X1 B1
    unfold stC at S1 X2 B2
    go_wp2_with fail
    generalize w1.alloc (Obj.cells #[Value.int IntKind.i64 s, Value.int IntKind.i64 g, Value.int IntKind.u32 m] 58) = wa at *
    obtain ⟨c0, c1, c2⟩ := S1.cells
    refine (HSL.out _).mono ?_
    rintro e w2 ⟨xs, rfl, hown, hrow, hb2⟩
    have S2 := S1.below hb2
    have X3 := X2.below hb2
    have B3 := below_next B2 hb2
    have HRW := Lib.hid hrow
    clear S1 X2 B2 hb2 c0 c1 c2 hrow
    generalize w1.heap.size = b6 at *
    generalize wa.heap.size = gb at *
    go_wp2_with fail
    go_loopw [26] (fun i wr => ∃ k : Nat, k ≤ N1 ∧ i = .int .i64 k ∧ wr.ownsRow gb 3 1 (.slice (some ⟨gb, 0, none⟩) N1 N1) N1 xs ∧ StB wr b6 s g m ∧
        Holds wr w.heap.size #[.int .i64 x, .int .i64 y, .int .i64 z] 56 ∧ Below w.heap.size w wr) (fun i _ => N1 - (intOf i).toNat)
    case atStart => exact ⟨0, by omega, rfl, hown, S2, X3, B3⟩
    case round =>
      clear hown S2 X3 B3
      obtain ⟨k, hk, rfl, hown, S2, X3, B3⟩ := hrel
      obtain ⟨c0, c1, c2⟩ := S2.cells
      by_cases hlt : k < N1
      · have hkn : k ≤ n := by have := HN1.out; omega
        have hl : xs.length = n + 1 := HRW.out.1
        have hc := hown.cellAt k (by omega)
        rw [HRW.out.2 k hkn] at hc
        by_cases c : (k : Int) = g
        · have ho : occ s g n k = -1 := by unfold occ; rw [if_pos c]
          rw [ho] at hc
          have HC := Lib.hid c
          clear c ho
          go_wp2_with fail
          refine (line_no s g m n k _ (Or.inr ⟨HR.out, Or.inr (Or.inr ⟨by omega, by omega, HC.out⟩)⟩)).mono ?_
          rintro e w3 ⟨rfl, hb3⟩
          have RR := Lib.hid (And.intro (own_keep hown hb3) (And.intro (S2.below hb3) (And.intro (X3.below hb3) (below_next B3 hb3))))
          clear hown S2 X3 B3 hb3 c0 c1 c2
          go_wp2
          go_roundw
          case rel => exact ⟨k + 1, by omega, by go_num, RR.out.1, RR.out.2.1, RR.out.2.2.1, RR.out.2.2.2⟩
          case measure => simp [intOf]; omega
        · have ho : occ s g n k = lineI s g n k := by unfold occ; rw [if_neg c]
          obtain ⟨u0, u1, u2⟩ := slot_occ s g n k HR.out (by omega) (by omega) c
          have hline := fun w => line_yes s g m n k w HR.out (by omega) (by omega) c
          have hslot := fun w => slot_yes s g m n (lineI s g n k) w HR.out u0 u1
          rw [u2] at hslot
          rw [ho] at hc
          obtain ⟨v, hv⟩ := Int.eq_ofNat_of_zero_le u0
          rw [hv] at hc hline hslot
          have HL := Lib.hid hline
          have HS := Lib.hid hslot
          clear hline hslot u0 u1 u2 hv ho c
          go_wp2_with fail
          refine (HL.out _).mono ?_
          rintro e w3 ⟨rfl, hb3⟩
          have S4 := S2.below hb3
          have H4 := Lib.hid (And.intro (own_keep hown hb3) (And.intro (X3.below hb3) (below_next B3 hb3)))
          clear hown S2 X3 B3 hb3 c0 c1 c2 hc
          obtain ⟨c0, c1, c2⟩ := S4.cells
          go_wp2_with fail
          refine (HS.out _).mono ?_
          rintro e w4 ⟨rfl, hb4⟩
          have RR := Lib.hid (And.intro (own_keep H4.out.1 hb4) (And.intro (S4.below hb4) (And.intro (H4.out.2.1.below hb4) (below_next H4.out.2.2 hb4))))
          clear S4 H4 hb4 c0 c1 c2
          go_wp2
          go_roundw
          case rel => exact ⟨k + 1, by omega, by go_num, RR.out.1, RR.out.2.1, RR.out.2.2.1, RR.out.2.2.2⟩
          case measure => simp [intOf]; omega
      · have hkN : k = N1 := by omega
        have HK := Lib.hid hkN
        clear hkN hown
        go_wp2_with fail
        refine (slot_no s g m n n _ (Or.inr ⟨HR.out, Or.inr ⟨by omega, by omega⟩⟩)).mono ?_
        rintro e w5 ⟨rfl, hb5⟩
        have S5 := S2.below hb5
        have X5 := X3.below hb5
        have B5 := below_next B3 hb5
        clear S2 X3 B3 hb5 c0 c1 c2
        obtain ⟨c0, c1, c2⟩ := S5.cells
        go_wp2_with fail
        refine (slot_no s g m n (-1) _ (Or.inr ⟨HR.out, Or.inl (by omega)⟩)).mono ?_
        rintro e w6 ⟨rfl, hb6⟩
        have S6 := S5.below hb6
        have X6 := X5.below hb6
        have B6 := below_next B5 hb6
        clear S5 X5 B5 hb6 c0 c1 c2
        obtain ⟨c0, c1, c2⟩ := S6.cells
        go_wp2_with fail
        refine (line_no s g m n (n + 1) _ (Or.inr ⟨HR.out, Or.inr (Or.inl ⟨by omega, by omega⟩)⟩)).mono ?_
        rintro e w7 ⟨rfl, hb7⟩
        have S7 := S6.below hb7
        have X7 := X6.below hb7
        have B7 := below_next B6 hb7
        clear S6 X6 B6 hb7 c0 c1 c2
        obtain ⟨c0, c1, c2⟩ := S7.cells
        go_wp2_with fail
        refine (line_no s g m n (-1) _ (Or.inr ⟨HR.out, Or.inl (by omega)⟩)).mono ?_
        rintro e w8 ⟨rfl, hb8⟩
        have X8 := X7.below hb8
        have B8 := below_next B7 hb8
        clear S7 X7 B7 hb8 c0 c1 c2
        obtain ⟨x0, x1, x2⟩ := X8.three
        have T9 := StB.new w8 y z 0
        have X9 := X8.alloc (stC y z 0)
        have B9 := below_new B8 (stC y z 0)
        have G2 : w.heap.size ≠ w8.heap.size := by have := X8.lt; omega
        unfold stC at T9 X9 B9
        clear X8 B8
        obtain ⟨y0, y1, y2⟩ := X9.three
        go_wp2_with fail
        generalize w8.alloc (Obj.cells #[Value.int IntKind.i64 y, Value.int IntKind.i64 z, Value.int IntKind.u32 0] 58) = wz at *
        generalize w8.heap.size = b9 at *
        clear x0 x1 x2 y0 y1 y2
        by_cases hraw : rightS y z x
        · have hx : 1 ≤ x ∧ x ≤ 1024 := ⟨hraw.1, hraw.2.1⟩
          have HRAW := Lib.hid hraw
          clear hraw
          refine (rright_yes y z x _ HRAW.out).mono ?_
          rintro e w9 ⟨rfl, rfl⟩
          obtain ⟨x0, x1, x2⟩ := X9.three
          obtain ⟨c0, c1, c2⟩ := T9.cells
          go_wp2_with fail
          refine (right_yes y z 0 x _ HRAW.out).mono ?_
          rintro e w10 ⟨rfl, rfl⟩
          have X10 := X9.alloc (stC y z 0)
          have T10 := T9.alloc (stC y z 0)
          have B10 := below_new B9 (stC y z 0)
          clear X9 T9 B9 x0 x1 x2 c0 c1 c2
          generalize wz.alloc (stC y z 0) = wy at *
          obtain ⟨x0, x1, x2⟩ := X10.three
          obtain ⟨c0, c1, c2⟩ := T10.cells
          go_wp2_with fail
          clear c0 c1 c2 T10
          obtain ⟨hx1, hx2⟩ := hx
          refine (first_any x _ hx1 hx2).mono ?_
          rintro e w20 ⟨rfl, hb20⟩
          have X20 := (X10.below hb20).alloc (stC 0 x 0)
          have B20 := below_new (below_next B10 hb20) (stC 0 x 0)
          have T20 := StB.new w20 0 x 0
          have G20 : w.heap.size ≠ w20.heap.size := by have := (X10.below hb20).lt; omega
          unfold stC at X20 B20 T20
          clear X10 B10 hb20 x0 x1 x2
          obtain ⟨x0, x1, x2⟩ := X20.three
          go_wp2_with fail
          refine (wakes6_any _).mono ?_
          rintro e w21 ⟨rfl, hb21⟩
          have X21 := X20.below hb21
          have T21 := T20.below hb21
          have HB := Lib.hid (below_next B20 hb21)
          clear X20 T20 B20 hb21 x0 x1 x2
          obtain ⟨x0, x1, x2⟩ := X21.three
          obtain ⟨c0, c1, c2⟩ := T21.cells
          go_wp2_with fail
          go_ret
          exact ⟨rfl, HB.out⟩
        · have HRAW := Lib.hid hraw
          clear hraw
          refine (rright_no y z x _ HRAW.out).mono ?_
          rintro e w9 ⟨rfl, rfl⟩
          obtain ⟨x0, x1, x2⟩ := X9.three
          obtain ⟨c0, c1, c2⟩ := T9.cells
          go_wp2_with fail
          refine (right_no y z 0 x _ HRAW.out).mono ?_
          rintro e w10 ⟨rfl, rfl⟩
          have X10 := X9.alloc (stC y z 0)
          have T10 := T9.alloc (stC y z 0)
          have B10 := below_new B9 (stC y z 0)
          clear X9 T9 B9 x0 x1 x2 c0 c1 c2
          generalize wz.alloc (stC y z 0) = wy at *
          obtain ⟨x0, x1, x2⟩ := X10.three
          obtain ⟨c0, c1, c2⟩ := T10.cells
          go_wp2_with fail
          refine (slot_no y z 0 x a1 _ (Or.inl HRAW.out)).mono ?_
          rintro e w11 ⟨rfl, hb11⟩
          have X11 := X10.below hb11
          have T11 := T10.below hb11
          have B11 := below_next B10 hb11
          clear X10 T10 B10 hb11 x0 x1 x2 c0 c1 c2
          obtain ⟨x0, x1, x2⟩ := X11.three
          obtain ⟨c0, c1, c2⟩ := T11.cells
          go_wp2_with fail
          refine (line_no y z 0 x a1 _ (Or.inl HRAW.out)).mono ?_
          rintro e w12 ⟨rfl, hb12⟩
          have X12 := X11.below hb12
          have B12 := below_next B11 hb12
          clear X11 T11 B11 hb12 x0 x1 x2 c0 c1 c2
          obtain ⟨x0, x1, x2⟩ := X12.three
          go_wp2_with fail
          by_cases hx1 : 1 ≤ x
          · by_cases hx2 : x ≤ 1024
            · skip
              refine (first_any x _ hx1 hx2).mono ?_
              rintro e w20 ⟨rfl, hb20⟩
              have X20 := (X12.below hb20).alloc (stC 0 x 0)
              have B20 := below_new (below_next B12 hb20) (stC 0 x 0)
              have T20 := StB.new w20 0 x 0
              have G20 : w.heap.size ≠ w20.heap.size := by have := (X12.below hb20).lt; omega
              unfold stC at X20 B20 T20
              clear X12 B12 hb20 x0 x1 x2
              obtain ⟨x0, x1, x2⟩ := X20.three
              go_wp2_with fail
              refine (wakes6_any _).mono ?_
              rintro e w21 ⟨rfl, hb21⟩
              have X21 := X20.below hb21
              have T21 := T20.below hb21
              have HB := Lib.hid (below_next B20 hb21)
              clear X20 T20 B20 hb21 x0 x1 x2
              obtain ⟨x0, x1, x2⟩ := X21.three
              obtain ⟨c0, c1, c2⟩ := T21.cells
              go_wp2_with fail
              go_ret
              exact ⟨rfl, HB.out⟩
            · skip
              refine (first_no x _ (Or.inr ⟨hx1, by omega⟩)).mono ?_
              rintro e w20 ⟨rfl, hb20⟩
              have X20 := (X12.below hb20).alloc (stC 0 0 0)
              have B20 := below_new (below_next B12 hb20) (stC 0 0 0)
              have T20 := StB.new w20 0 0 0
              have G20 : w.heap.size ≠ w20.heap.size := by have := (X12.below hb20).lt; omega
              unfold stC at X20 B20 T20
              clear X12 B12 hb20 x0 x1 x2
              obtain ⟨x0, x1, x2⟩ := X20.three
              go_wp2_with fail
              refine (wakes6_any _).mono ?_
              rintro e w21 ⟨rfl, hb21⟩
              have X21 := X20.below hb21
              have T21 := T20.below hb21
              have HB := Lib.hid (below_next B20 hb21)
              clear X20 T20 B20 hb21 x0 x1 x2
              obtain ⟨x0, x1, x2⟩ := X21.three
              obtain ⟨c0, c1, c2⟩ := T21.cells
              go_wp2_with fail
              go_ret
              exact ⟨rfl, HB.out⟩
          · skip
            refine (first_no x _ (Or.inl (by omega))).mono ?_
            rintro e w20 ⟨rfl, hb20⟩
            have X20 := (X12.below hb20).alloc (stC 0 0 0)
            have B20 := below_new (below_next B12 hb20) (stC 0 0 0)
            have T20 := StB.new w20 0 0 0
            have G20 : w.heap.size ≠ w20.heap.size := by have := (X12.below hb20).lt; omega
            unfold stC at X20 B20 T20
            clear X12 B12 hb20 x0 x1 x2
            obtain ⟨x0, x1, x2⟩ := X20.three
            go_wp2_with fail
            refine (wakes6_any _).mono ?_
            rintro e w21 ⟨rfl, hb21⟩
            have X21 := X20.below hb21
            have T21 := T20.below hb21
            have HB := Lib.hid (below_next B20 hb21)
            clear X20 T20 B20 hb21 x0 x1 x2
            obtain ⟨x0, x1, x2⟩ := X21.three
            obtain ⟨c0, c1, c2⟩ := T21.cells
            go_wp2_with fail
            go_ret
            exact ⟨rfl, HB.out⟩

end Go.Proofs.Ytlneehkkngnjhaa
