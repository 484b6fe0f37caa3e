/-
  The walk of GapTurns.
-/
import Derived.Test.YtlneehkkngnjhabGapTP
namespace Go.Proofs.Ytlneehkkngnjhab
open Go.RowKit

theorem infoInt : (Try.prog.info? 3).map (fun i => (i.zero, i.size, i.bytes)) = some (some (.int .i64 0), 1, 8) := by kernel_rfl
theorem own_keep {w w' : World} {base : Nat} {e : TypeId} {size n : Nat} {v : Value} {xs : List Value} (h : w.ownsRow base e size v n xs) (hb : Below w.heap.size w w') : w'.ownsRow base e size v n xs := by
  refine ⟨h.1, ?_⟩
  rcases h.2 with hn | ⟨g, cap, cur, rfl, hg, hh, rest⟩
  · exact .inl hn
  · exact .inr ⟨g, cap, cur, rfl, hg, (hb.block g (Array.getElem?_eq_some_iff.1 hh).1).trans hh, rest⟩
theorem below_drewN {B : Nat} {a w : World} (h : Below B a w) (n : Nat) : Below B a (w.drewN n) := ⟨h.os, h.tape, h.output, h.size, h.block⟩
theorem line_at (n j : Nat) (M : Int) (p : Nat) (w : World) (h1 : 1 ≤ n) (h2 : n ≤ 1024) (hp : p ≤ n) :
    Calls Try.prog 8 #[.agg #[.int .i64 (sAt n j), .int .i64 (gAt n j), .int .u32 M], .int .i64 (n : Int), .int .i64 (p : Int)] w fun e w' => e = .returned (.int .i64 (occ (sAt n j) (gAt n j) n p)) ∧ Below w.heap.size w w' := by
  have hr := at_right n j h1 h2
  by_cases c : (p : Int) = gAt n j
  · unfold occ
    rw [if_pos c]
    exact line_no _ _ _ _ _ w (Or.inr ⟨hr, Or.inr (Or.inr ⟨by omega, by omega, c⟩)⟩)
  · unfold occ
    rw [if_neg c]
    exact line_yes _ _ _ _ _ w hr (by omega) (by omega) c

set_option maxRecDepth 100000 in
set_option maxHeartbeats 2000000 in
theorem walk_GapTurns (a0 : List Int) (a1 : Int) (l0 : a0.length = 3) (w0 : ∀ x ∈ a0, (Lit.int .i64 x).wf = true) (w1 : (Lit.int .u8 a1).wf = true) (w : World) :
    Calls Try.prog 3 #[.agg (a0.map (Value.int .i64)).toArray, .int .u8 a1] w fun e w' => e = .returned (.bool true) ∧ Below w.heap.size w w' := by
  have h1 := bounds_u8 w1
  clear w1
  obtain ⟨i0, hi, hz0, hz1, hz2⟩ := info_parts infoInt
  match a0, l0, w0 with
  | [x, y, z], _, w0 =>
    clear w0
    show Calls Try.prog 3 #[.agg #[.int .i64 x, .int .i64 y, .int .i64 z], .int .u8 a1] w fun e w' => e = .returned (.bool true) ∧ Below w.heap.size w w'
    have hN := tN_b x
    have q1 := Int.emod_nonneg (mx y) (show tN x ≠ 0 by omega)
    have q2 := Int.emod_lt_of_pos (mx y) (show 0 < tN x by omega)
    have q3 := Int.emod_nonneg (mx z) (show tN x + 1 ≠ 0 by omega)
    have q4 := Int.emod_lt_of_pos (mx z) (show 0 < tN x + 1 by omega)
    have hm : 0 ≤ x % 4294967296 ∧ x % 4294967296 ≤ 4294967295 := by omega
    obtain ⟨n, hn⟩ := Int.eq_ofNat_of_zero_le (show 0 ≤ tN x by omega)
    obtain ⟨s, hs⟩ := Int.eq_ofNat_of_zero_le q1
    obtain ⟨g, hg⟩ := Int.eq_ofNat_of_zero_le q3
    have hr : rightS s g n := by rw [← hs, ← hg, ← hn]; unfold rightS; omega
    obtain ⟨es, eg⟩ := at_any s g n hr
    generalize s * (n + 1) + (n - g) = j0 at *
    have n1 : 1 ≤ n := hr.1 |> fun h => by omega
    have n40 : n ≤ 40 := by omega
    obtain ⟨K, hK, hK2⟩ : ∃ K : Nat, ((n : Int) + 1) * (1 + a1 % 3) = (K : Int) ∧ K ≤ 123 := by
      have hd : a1 % 3 = 0 ∨ a1 % 3 = 1 ∨ a1 % 3 = 2 := by omega
      rcases hd with hd | hd | hd <;> rw [hd]
      · exact ⟨n + 1, by omega, by omega⟩
      · exact ⟨2 * (n + 1), by omega, by omega⟩
      · exact ⟨3 * (n + 1), by omega, by omega⟩
    obtain ⟨N1, hN1⟩ : ∃ N1 : Nat, N1 = n + 1 := ⟨_, rfl⟩
    have eN1 : (n : Int) + 1 = (N1 : Int) := by omega
    have bN1 : N1 ≤ 41 := by omega
    rw [eN1] at hK
    have HN1 := Lib.hid hN1
    clear q1 q2 q3 q4 hr hN1
    have HEQ := Lib.hid (And.intro hn (And.intro hs hg))
    have HES := Lib.hid (And.intro es eg)
    clear hn hs hg es eg hN
    go_enter Try.func3, Try.ntmps3
    go_wp2_with fail
    refine (tame_any x y z _).mono ?_
    rintro e w1 ⟨rfl, hb1⟩
    rw [HEQ.out.2.1, HEQ.out.2.2, HEQ.out.1, ← HES.out.1, ← HES.out.2]
    generalize x % 4294967296 = m at *
    have S1 := StB.new w1 (sAt n j0) (gAt n j0) m
    have B1 := below_new (below_next (below_new (Below.refl _ w) _) hb1) (stC (sAt n j0) (gAt n j0) m)
    have n6 := (below_next (below_new (Below.refl _ w) _) hb1).size
    clear hb1
    unfold stC at S1 B1
    go_wp2_with (refine wpList_make_full _ rfl _ _ 28 rfl (w1.heap.size + 1) 3 i0 (.int .i64 0) 1 Try.underlying28 hi hz0 hz1 .i64 .i64 _ _ N1 rfl rfl rfl rfl (by rw [hz2]; omega) (by unfold maxLen; omega) (by simp) ?_; intro wm hown hgrow)
    have hb2 : Below (w1.heap.size + 1) (w1.alloc (Obj.cells #[Value.int IntKind.i64 (sAt n j0), Value.int IntKind.i64 (gAt n j0), Value.int IntKind.u32 m] 25)) wm := (Below.refl _ _).grown hgrow (by simp) (fun k hk => by cases hk)
    have S2 : StB wm w1.heap.size (sAt n j0) (gAt n j0) m := (hb2.block w1.heap.size (by omega)).trans S1
    have B2 : Below w.heap.size w wm := B1.trans (hb2.mono (by omega))
    clear hgrow hb2 S1 B1
    rw [show (w1.alloc (Obj.cells #[Value.int IntKind.i64 (sAt n j0), Value.int IntKind.i64 (gAt n j0), Value.int IntKind.u32 m] 25)).heap.size = w1.heap.size + 1 by simp] at hown
    generalize w1.heap.size = b6 at *
    have G1 : b6 < b6 + 1 := by omega
    generalize b6 + 1 = gb at *
    generalize (madeCells (Value.cells (.int .i64 0)) (N1 * 1)).toList = xs0 at *
    go_loopw [26] (fun i wr => ∃ (k : Nat) (xs : List Value), k ≤ N1 ∧ i = .int .i64 k ∧ wr.ownsRow gb 3 1 (.slice (some ⟨gb, 0, none⟩) N1 N1) N1 xs ∧
        (∀ p, p < k → xs[p]? = some (.int .i64 (occ (sAt n j0) (gAt n j0) n p))) ∧ StB wr b6 (sAt n j0) (gAt n j0) m ∧ Below w.heap.size w wr) (fun i _ => N1 - (intOf i).toNat)
    case atStart => exact ⟨0, xs0, by omega, rfl, hown, fun p hp => by omega, S2, B2⟩
    case round =>
      clear hown S2 B2
      obtain ⟨k, xs, hk, rfl, hown, hdone, S2, B2⟩ := hrel
      have HD := Lib.hid hdone
      clear hdone
      have hl : xs.length = N1 := by simpa using hown.1
      by_cases hlt : k < N1
      · obtain ⟨c0, c1, c2⟩ := S2.cells
        go_wp2_with fail
        refine (line_at n j0 m k _ n1 (by omega) (by have := HN1.out; omega)).mono ?_
        rintro e w3 ⟨rfl, hb3⟩
        have hown3 := own_keep hown hb3
        have S3 := S2.below hb3
        have B3 := below_next B2 hb3
        have hst := hown3.stored k (.int .i64 (occ (sAt n j0) (gAt n j0) n k))
        have R1 := S3.far (a := ⟨gb, k, none⟩) (by simp; omega) (.int .i64 (occ (sAt n j0) (gAt n j0) n k))
        have R2 := B3.setCell (p := ⟨gb, k, none⟩) (by simp; omega) (.int .i64 (occ (sAt n j0) (gAt n j0) n k))
        have hc := hown3.cellAt k (by omega)
        rw [List.getElem?_eq_getElem (by omega)] at hc
        have hf := hown3.frozenAt k
        have RR := Lib.hid (And.intro hst.1 (And.intro R1 R2))
        have hnext : ∀ p, p < k + 1 → (xs.set k (.int .i64 (occ (sAt n j0) (gAt n j0) n k)))[p]? = some (.int .i64 (occ (sAt n j0) (gAt n j0) n p)) := by
          intro p hp
          by_cases e : p = k
          · subst e; rw [List.getElem?_set_self (by omega)]
          · rw [List.getElem?_set_ne (fun h => e h.symm)]; exact HD.out p (by omega)
        have HN := Lib.hid hnext
        generalize xs[k] = u at *
        clear hst R1 R2 hown hown3 S2 S3 B2 B3 hb3 c0 c1 c2 hnext HD hl
        go_wp2
        go_roundw
        case rel => exact ⟨k + 1, _, by omega, by go_num, RR.out.1, HN.out, RR.out.2.1, RR.out.2.2⟩
        case measure => simp [intOf]; omega
      · obtain ⟨k1, rfl⟩ : ∃ k1, k1 = N1 := ⟨_, rfl⟩
        obtain rfl : k = k1 := by omega
        generalize k = k1 at *
        have hrow : RowIs xs (sAt n j0) (gAt n j0) n := ⟨by rw [hl]; exact HN1.out, fun p hp => HD.out p (by have := HN1.out; omega)⟩
        have HR := Lib.hid hrow
        clear hrow HD
        obtain ⟨c0, c1, c2⟩ := S2.cells
        go_wp2_with fail
        have hown4 := hown.alloc (Obj.cells #[Value.int IntKind.i64 (sAt n j0), Value.int IntKind.i64 (gAt n j0), Value.int IntKind.u32 m] 25)
        have S4 := S2.alloc (Obj.cells #[Value.int IntKind.i64 (sAt n j0), Value.int IntKind.i64 (gAt n j0), Value.int IntKind.u32 m] 25)
        have T4 := StB.new wr (sAt n j0) (gAt n j0) m
        unfold stC at T4
        have B4 := below_new B2 (Obj.cells #[Value.int IntKind.i64 (sAt n j0), Value.int IntKind.i64 (gAt n j0), Value.int IntKind.u32 m] 25)
        have G2 : b6 ≠ wr.heap.size := by have := S2.lt; omega
        have G3 : gb ≠ wr.heap.size := by
          have := (hown.lt gb rfl).2
          omega
        clear hown S2 B2 c0 c1 c2 hl hk hlt
        generalize wr.heap.size = b9 at *
        generalize wr.alloc (Obj.cells #[Value.int IntKind.i64 (sAt n j0), Value.int IntKind.i64 (gAt n j0), Value.int IntKind.u32 m] 25) = wv at *
        go_loopw [45] (fun i wr => ∃ (k : Nat) (xs : List Value) (M : Int), k ≤ K ∧ i = .int .i64 k ∧ 0 ≤ M ∧ M ≤ 4294967295 ∧ wr.ownsRow gb 3 1 (.slice (some ⟨gb, 0, none⟩) k1 k1) k1 xs ∧
            RowIs xs (sAt n (j0 + k)) (gAt n (j0 + k)) n ∧ StB wr b6 (sAt n (j0 + k)) (gAt n (j0 + k)) M ∧ StB wr b9 (sAt n j0) (gAt n j0) m ∧ Below w.heap.size w wr) (fun i _ => K - (intOf i).toNat)
        case atStart => exact ⟨0, xs, m, by omega, rfl, hm.1, hm.2, hown4, HR.out, S4, T4, B4⟩
        case round =>
          clear hown4 S4 T4 B4 HR
          obtain ⟨k, xs, M, hk, rfl, hM0, hM1, hown, hrow, S2, T2, B2⟩ := hrel
          have hl : xs.length = n + 1 := hrow.1
          have HR := Lib.hid hrow
          clear hrow
          obtain ⟨c0, c1, c2⟩ := S2.cells
          by_cases hlt : k < K
          · go_wp2_with fail
            obtain ⟨M', hM', em1⟩ : ∃ M', m1 M = M' ∧ 0 ≤ M' ∧ M' ≤ 4294967295 := ⟨_, rfl, by unfold m1; omega, by unfold m1; omega⟩
            have hadd : j0 + k + 1 = j0 + (k + 1) := by omega
            have hr1 := at_right n (j0 + k + 1) n1 (by omega)
            have hr0 := at_right n (j0 + k) n1 (by omega)
            have hne := gap_moves n (j0 + k) n1 (by omega)
            rw [hadd] at hr1 hne
            obtain ⟨f, hf⟩ := Int.eq_ofNat_of_zero_le hr1.2.2.2.2.1
            obtain ⟨t, ht⟩ := Int.eq_ofNat_of_zero_le hr0.2.2.2.2.1
            have hcall := fun w => next_at2 n (j0 + k) M w n1 (by omega) ⟨hM0, hM1⟩
            rw [hM', hadd, hf] at hcall
            have HCALL := Lib.hid hcall
            clear hcall hM' hadd
            have hfn : f ≤ n := by have := hr1.2.2.2.2.2; omega
            have htn : t ≤ n := by have := hr0.2.2.2.2.2; omega
            have hft : f ≠ t := by intro e; apply hne; rw [hf, ht, e]
            have hrow2 : RowIs ((xs.set t (.int .i64 (occ (sAt n (j0 + k)) (gAt n (j0 + k)) n f))).set f (.int .i64 (-1))) (sAt n (j0 + (k + 1))) (gAt n (j0 + (k + 1))) n :=
              RowIs.next (j := j0 + k) HR.out n1 (by omega) hf ht hfn htn
            have xt : xs[t]? = some (.int .i64 (-1)) := by
              rw [HR.out.2 t htn]; unfold occ; rw [if_pos (by omega)]
            have xf := HR.out.2 f hfn
            generalize occ (sAt n (j0 + k)) (gAt n (j0 + k)) n f = v at *
            clear hr1 hr0 hne HR
            have HEK := Lib.hid (HN1.out)
            have ek1 : k1 = n + 1 := HN1.out
            refine (HCALL.out _).mono ?_
            rintro e w5 ⟨rfl, hb5⟩
            have hown5 := (own_keep hown hb5).alloc (Obj.cells #[Value.int IntKind.i64 (sAt n (j0 + (k + 1))), Value.int IntKind.i64 (f : Int), Value.int IntKind.u32 M'] 25)
            have S5 := (S2.below hb5).alloc (Obj.cells #[Value.int IntKind.i64 (sAt n (j0 + (k + 1))), Value.int IntKind.i64 (f : Int), Value.int IntKind.u32 M'] 25)
            have T5 := (T2.below hb5).alloc (Obj.cells #[Value.int IntKind.i64 (sAt n (j0 + (k + 1))), Value.int IntKind.i64 (f : Int), Value.int IntKind.u32 M'] 25)
            have U5 := StB.new w5 (sAt n (j0 + (k + 1))) (f : Int) M'
            unfold stC at U5
            have B5 := below_new (below_next B2 hb5) (Obj.cells #[Value.int IntKind.i64 (sAt n (j0 + (k + 1))), Value.int IntKind.i64 (f : Int), Value.int IntKind.u32 M'] 25)
            have G4 : b6 ≠ w5.heap.size := by have := (S2.below hb5).lt; omega
            have G5 : b9 ≠ w5.heap.size := by have := (T2.below hb5).lt; omega
            have G6 : gb ≠ w5.heap.size := by have := ((own_keep hown hb5).lt gb rfl).2; omega
            have hct := hown5.cellAt t (by omega)
            rw [xt] at hct
            have hcf := hown5.cellAt f (by omega)
            rw [xf] at hcf
            have hft0 := hown5.frozenAt t
            have hff0 := hown5.frozenAt f
            obtain ⟨d0, d1, d2⟩ := S5.cells
            obtain ⟨f0, f1, f2⟩ := S5.frozen
            obtain ⟨u0, u1, u2⟩ := U5.cells
            have z1 := (hown5.stored t (.int .i64 v)).1
            have z2 := (z1.stored f (.int .i64 (-1))).1
            have z3 := ownsRow_setCell_below (ownsRow_setCell_below (ownsRow_setCell_below z2 (a := ⟨b6, 0, none⟩) (by simp; omega) (.int .i64 (sAt n (j0 + (k + 1))))) (a := ⟨b6, 1, none⟩) (by simp; omega) (.int .i64 (f : Int))) (a := ⟨b6, 2, none⟩) (by simp; omega) (.int .u32 M')
            have y1 := ((S5.far (a := ⟨gb, t, none⟩) (by simp; omega) (.int .i64 v)).far (a := ⟨gb, f, none⟩) (by simp; omega) (.int .i64 (-1))).set (sAt n (j0 + (k + 1))) (f : Int) M'
            have t1 := ((((T5.far (a := ⟨gb, t, none⟩) (by simp; omega) (.int .i64 v)).far (a := ⟨gb, f, none⟩) (by simp; omega) (.int .i64 (-1))).far (a := ⟨b6, 0, none⟩) (by simp; omega) (.int .i64 (sAt n (j0 + (k + 1))))).far (a := ⟨b6, 1, none⟩) (by simp; omega) (.int .i64 (f : Int))).far (a := ⟨b6, 2, none⟩) (by simp; omega) (.int .u32 M')
            have b1 := ((((B5.setCell (p := ⟨gb, t, none⟩) (by simp; omega) (.int .i64 v)).setCell (p := ⟨gb, f, none⟩) (by simp; omega) (.int .i64 (-1))).setCell (p := ⟨b6, 0, none⟩) (by simp; omega) (.int .i64 (sAt n (j0 + (k + 1))))).setCell (p := ⟨b6, 1, none⟩) (by simp; omega) (.int .i64 (f : Int))).setCell (p := ⟨b6, 2, none⟩) (by simp; omega) (.int .u32 M')
            have RR := Lib.hid (And.intro hrow2 (And.intro z3 (And.intro y1 (And.intro t1 b1))))
            have hb1 : ((f : Int) == (t : Int)) = false := by simp; omega
            have bf0 : decide ((f : Int) < 0) = false := by simp
            have bt0 : decide ((t : Int) < 0) = false := by simp
            have bfn : decide (n < f) = false := by simp; omega
            have btn : decide (n < t) = false := by simp; omega
            have hfk : f < k1 := by omega
            have htk : t < k1 := by omega
            clear ek1 hown S2 T2 B2 hb5 hown5 S5 T5 U5 B5 z1 z2 z3 y1 t1 b1 hrow2 c0 c1 c2 xt xf
            go_wp2_with fail
            generalize ((((((w5.alloc (Obj.cells #[Value.int IntKind.i64 (sAt n (j0 + (k + 1))), Value.int IntKind.i64 (f : Int), Value.int IntKind.u32 M'] 25)).setCell ⟨gb, t, none⟩ (.int .i64 v)).setCell ⟨gb, f, none⟩ (.int .i64 (-1))).setCell ⟨b6, 0, none⟩ (.int .i64 (sAt n (j0 + (k + 1))))).setCell ⟨b6, 1, none⟩ (.int .i64 (f : Int))).setCell ⟨b6, 2, none⟩ (.int .u32 M')) = W at *
            have RR2 := RR.out
            generalize (xs.set t (.int .i64 v)).set f (.int .i64 (-1)) = xs2 at *
            obtain ⟨hrow2, z3, y1, t1, b1⟩ := RR2
            have HROW := Lib.hid hrow2
            clear hrow2 RR hct hcf hft0 hff0 d0 d1 d2 f0 f1 f2 u0 u1 u2 G4 G5 G6 HCALL hb1
            go_loopw [95] (fun i wr => ∃ i' : Nat, i' ≤ n ∧ i = .int .i64 i' ∧ wr.ownsRow gb 3 1 (.slice (some ⟨gb, 0, none⟩) k1 k1) k1 xs2 ∧ StB wr b6 (sAt n (j0 + (k + 1))) f M' ∧ StB wr b9 (sAt n j0) (gAt n j0) m ∧ Below w.heap.size w wr) (fun i _ => n - (intOf i).toNat)
            case atStart => exact ⟨0, by omega, rfl, z3, y1, t1, b1⟩
            case round =>
              clear z3 y1 t1 b1
              obtain ⟨i', hi', rfl, z3, y1, t1, b1⟩ := hrel
              obtain ⟨c0, c1, c2⟩ := y1.cells
              by_cases hlt2 : i' < n
              · have hr1 := at_right n (j0 + (k + 1)) n1 (by omega)
                rw [hf] at hr1
                have hsl := slot_ok _ _ _ (i' : Int) hr1 (by omega) (by omega)
                obtain ⟨p, hp⟩ := Int.eq_ofNat_of_zero_le hsl.1
                have hcall := fun w => slot_yes _ _ M' _ (i' : Int) w hr1 (by omega) (by omega)
                rw [hp] at hcall hsl
                have hpn : p ≤ n := by have := hsl.2.1; omega
                have hx : xs2[p]? = some (.int .i64 (i' : Int)) := by
                  have := HROW.out.2 p hpn
                  rw [hf, hsl.2.2] at this
                  exact this
                have HC := Lib.hid hcall
                have HX := Lib.hid hx
                have hpk : p < k1 := by have := HN1.out; omega
                clear hr1 hsl hp hcall hx
                go_wp2_with fail
                refine (HC.out _).mono ?_
                rintro e w7 ⟨rfl, hb7⟩
                have z4 := own_keep z3 hb7
                have hcp := z4.cellAt p (by omega)
                rw [HX.out] at hcp
                have Z := Lib.hid (And.intro z4 (And.intro (y1.below hb7) (And.intro (t1.below hb7) (below_next b1 hb7))))
                clear z3 y1 t1 b1 z4 hb7 c0 c1 c2 HC HX
                go_wp2
                go_roundw
                case rel =>
                  first
                    | exact ⟨i' + 1, by omega, by go_num, Z.out.1, Z.out.2.1, Z.out.2.2.1, Z.out.2.2.2⟩
                    | ((repeat apply Exists.intro); exact ⟨⟨i' + 1, by omega, by go_num, Z.out.1, Z.out.2.1, Z.out.2.2.1, Z.out.2.2.2⟩, rfl⟩)
                case measure => simp [intOf]; omega
              · obtain ⟨e0, e1, e2⟩ := t1.cells
                have HZ := Lib.hid (And.intro z3 (And.intro y1 (And.intro t1 b1)))
                clear z3 y1 t1 b1
                by_cases hkn : k = n
                · have hkb : ((k : Int) == (n : Int)) = true := by simp; omega
                  have hrd := at_round n j0 n1
                  rw [hkn, hrd.1] at c0
                  have hgg : (f : Int) = gAt n j0 := by rw [← hf, hkn, hrd.2]
                  rw [hgg] at c1
                  have hkd : decide ((k : Int) = (n : Int)) = true := by simp; omega
                  have hke : decide (k = n) = true := by simp; omega
                  have hr4 := at_right n j0 n1 (by omega)
                  have hw6 : wrap64 (sAt n j0 + 1) = sAt n j0 + 1 := by unfold wrap64; have := hr4; unfold rightS at this; omega
                  have ht6 : (sAt n j0 + 1).tmod (n : Int) = (sAt n j0 + 1) % (n : Int) := Int.tmod_eq_emod_of_nonneg (by have := hr4; unfold rightS at this; omega)
                  have HG := Lib.hid (And.intro hgg (And.intro hrd.1 hkn))
                  clear hr4
                  clear hgg hrd hkn
                  go_wp2_with fail
                  go_quiet (fail)
                  go_wp2
                  go_roundw
                  case rel => exact ⟨k + 1, xs2, M', by omega, by go_num, em1.1, em1.2, HZ.out.1, HROW.out, by rw [hf]; exact HZ.out.2.1, HZ.out.2.2.1, below_drewN HZ.out.2.2.2 _⟩
                  case measure => simp [intOf]; omega
                · have hkb : ((k : Int) == (n : Int)) = false := by simp; omega
                  have hkd : decide ((k : Int) = (n : Int)) = false := by simp; omega
                  have hke : decide (k = n) = false := by simp; omega
                  go_wp2_with fail
                  go_quiet (fail)
                  go_wp2
                  go_roundw
                  case rel => exact ⟨k + 1, xs2, M', by omega, by go_num, em1.1, em1.2, HZ.out.1, HROW.out, by rw [hf]; exact HZ.out.2.1, HZ.out.2.2.1, below_drewN HZ.out.2.2.2 _⟩
                  case measure => simp [intOf]; omega
          · go_wp2_with fail
            refine (wakes6_any _).mono ?_
            rintro e w9 ⟨rfl, hb9⟩
            go_wp2_with fail
            go_ret
            exact ⟨rfl, below_next B2 hb9⟩

end Go.Proofs.Ytlneehkkngnjhab
