/-
  Layer 14: the law's same.
-/
import Derived.Test.YtpkhfdcokcchdaaAlX
namespace Go.Proofs.Ytpkhfdcokcchdaa
open Go.RowKit

theorem ahas_is (N : Nat) (l : List (Nat × Nat)) (ao : Option Addr) (cap L : Nat) (b : Int) (f : Bool) (w : World) (h : SetIs w N l ao cap) (hL : L = l.length) (hf : hasB l b = f) :
    Calls Try.prog 25 #[.agg #[.int .i64 N, .slice ao L cap], .int .i64 b] w fun e w' => e = .returned (.bool f) ∧ Gr [] w w' := by
  subst hL hf
  exact ahas_any N l ao cap b w h
theorem afree_is (N : Nat) (l : List (Nat × Nat)) (ao : Option Addr) (cap L s : Nat) (w : World) (h : SetIs w N l ao cap) (hL : L = l.length) (hs : s = sumL l) :
    Calls Try.prog 24 #[.agg #[.int .i64 N, .slice ao L cap]] w fun e w' => e = .returned (.int .i64 s) ∧ Gr [] w w' := by
  subst hL hs
  exact afree_any N l ao cap w h
theorem alist_is (N : Nat) (l : List (Nat × Nat)) (ao : Option Addr) (cap L : Nat) (w : World) (h : SetIs w N l ao cap) (hL : L = l.length) :
    Calls Try.prog 26 #[.agg #[.int .i64 N, .slice ao L cap]] w fun e w' => ∃ ao' cap', e = .returned (.slice ao' L cap') ∧ Rd2 w' ao' (zl l) ∧ Gr [] w w' := by
  subst hL
  refine (alist_any N l ao cap w h).mono ?_
  rintro e w' ⟨ao', cap', rfl, ⟨a, c, hv, hr, -⟩, g⟩
  injection hv with q1 q2 q3
  subst q1
  exact ⟨_, _, rfl, hr, g⟩
theorem rext_is (N : Nat) (m : Nat → Bool) (ao : Option Addr) (cap L : Nat) (l : List (Nat × Nat)) (w : World) (h : RdM w ao N m) (hN : N ≤ 65536) (hl : l = extP m N) (hL : L = l.length) :
    Calls Try.prog 71 #[.slice ao N cap] w fun e w' => ∃ ao' cap', e = .returned (.slice ao' L cap') ∧ Rd2 w' ao' (zl l) ∧ Gr [] w w' := by
  refine (rext_any N m ao cap w h hN).mono ?_
  rintro e w' ⟨v, rfl, ho, g⟩
  rw [← hl] at ho
  obtain ⟨a, c, rfl⟩ := own_form ho
  obtain ⟨a', c', hv, hr, -⟩ := own_sl2 ho
  injection hv with q1 q2 q3
  subst q1
  exact ⟨_, _, by rw [hL], hr, g⟩

set_option maxHeartbeats 8000000 in
set_option maxRecDepth 20000 in
theorem asame_any (N L : Nat) (l : List (Nat × Nat)) (m : Nat → Bool) (ao ao2 : Option Addr) (cap cap2 : Nat) (w : World) (h : SetIs w N l ao cap) (h2 : RdM w ao2 N m) (hl : l = extP m N) (hL : L = l.length) :
    Calls Try.prog 17 #[.agg #[.int .i64 N, .slice ao L cap], .slice ao2 N cap2] w fun e w' => e = .returned (.bool true) ∧ Gr [] w w' := by
  have hhi := h.hi
  have hlen := h.len
  have hsum : sumL l ≤ 65536 := by have := sumL_le h.runs; omega
  have HH := Lib.hid (show ∀ b : Nat, hasB l (b : Int) = (decide (b < N) && m b) from fun b => by
    rw [hasB_nat h.runs b, hl]; exact (extP_ok m N).2 b)
  have HS := Lib.hid (fun (W : World) (g : Gr [] w W) => h.gr0 g)
  have HM := Lib.hid (fun (W : World) (g : Gr [] w W) => h2.gr0 g)
  have HE := Lib.hid (fun W (g : Gr [] w W) => rext_is N m ao2 cap2 L l W (h2.gr0 g) hhi hl hL)
  have HB := Lib.hid (Holds.new w #[.int .i64 N, .slice ao L cap] 25)
  have HG := Lib.hid ((Gr.refl [] w).alloc (Obj.cells #[.int .i64 N, .slice ao L cap] 25))
  have HL := Lib.hid hL
  have hL2 : L ≤ 65536 := by omega
  obtain ⟨s, hs⟩ : ∃ s, s = sumL l := ⟨_, rfl⟩
  have HSU := Lib.hid hs
  rw [← hs] at hsum
  clear h h2 hl hL hlen hs
  go_enter Try.func17, Try.ntmps17
  go_wp2_with fail
  obtain ⟨B, hBB⟩ : ∃ B, w.heap.size = B := ⟨_, rfl⟩
  generalize w.alloc (Obj.cells #[.int .i64 N, .slice ao L cap] 25) = w0 at *
  rw [hBB] at HB ⊢
  clear hBB
  refine (HE.out _ HG.out).mono ?_
  rintro e w1 ⟨a1, c1, rfl, r1, g1⟩
  have H1 := Lib.hid (And.intro (HB.out.gr0 g1) (And.intro (HG.out.next0 g1) r1))
  clear HE HB HG g1 r1
  have k0 := H1.out.1.cell 0
  have k1 := H1.out.1.cell 1
  go_wp2_with fail
  refine (alist_is N l ao cap L w1 (HS.out _ H1.out.2.1) HL.out).mono ?_
  rintro e w2 ⟨a2, c2, rfl, r2, g2⟩
  have H2 := Lib.hid (And.intro (H1.out.1.gr0 g2) (And.intro (H1.out.2.1.next0 g2) (And.intro (H1.out.2.2.gr0 g2) r2)))
  clear H1 k0 k1 g2 r2
  have k0 := H2.out.1.cell 0
  have k1 := H2.out.1.cell 1
  go_wp2_with fail
  refine (asize_any N (.slice ao L cap) w2).mono ?_
  rintro e w3 ⟨rfl, g3⟩
  have H3 := Lib.hid (And.intro (H2.out.1.gr0 g3) (And.intro (H2.out.2.1.next0 g3) (And.intro (H2.out.2.2.1.gr0 g3) (H2.out.2.2.2.gr0 g3))))
  clear H2 k0 k1 g3
  go_wp2_with fail
  go_loopw [7, 30] (fun nn i wr => ∃ k : Nat, k ≤ L ∧ i = .int .i64 k ∧ nn = .int .i64 (sumL (l.take k)) ∧ Gr [] w3 wr) (fun _ i _ => L - (intOf i).toNat)
  case atStart => exact ⟨0, by omega, rfl, rfl, Gr.refl _ _⟩
  case round =>
    obtain ⟨k, hk, rfl, rfl, G⟩ := hrel
    by_cases hkL : k < L
    · have hkL2 : (k : Int) < (L : Int) := by omega
      obtain ⟨e, he⟩ : ∃ e, l[k]? = some e := ⟨_, List.getElem?_eq_getElem (by have := HL.out; omega)⟩
      have q : (zl l)[k]? = some ((e.1 : Int), (e.2 : Int)) := by rw [zl_get, he]; rfl
      obtain ⟨b1, o1, hao1, hb1, x1, x2⟩ := H3.out.2.2.1 k _ q
      obtain ⟨b2, o2, hao2, hb2, y1, y2⟩ := H3.out.2.2.2 k _ q
      have ga := (Gr.refl [] wr).alloc (Obj.cells #[.int .i64 e.1, .int .i64 e.2] 35)
      have G2 := G.next0 ga
      have X1 : (wr.alloc (Obj.cells #[.int .i64 e.1, .int .i64 e.2] 35)).cell? ⟨b1, o1 + k * 2, none⟩ = some (.int .i64 (e.1 : Int)) := (G2.cell0 hb1).trans x1
      have X2 : (wr.alloc (Obj.cells #[.int .i64 e.1, .int .i64 e.2] 35)).cell? ⟨b1, o1 + k * 2 + 1, none⟩ = some (.int .i64 (e.2 : Int)) := (G2.cell0 hb1).trans x2
      have Y1 : wr.cell? ⟨b2, o2 + k * 2, none⟩ = some (.int .i64 (e.1 : Int)) := (G.cell0 hb2).trans y1
      have Y2 : wr.cell? ⟨b2, o2 + k * 2 + 1, none⟩ = some (.int .i64 (e.2 : Int)) := (G.cell0 hb2).trans y2
      have N0 := (Holds.new wr #[.int .i64 e.1, .int .i64 e.2] 35).cell 0
      have N1 := (Holds.new wr #[.int .i64 e.1, .int .i64 e.2] 35).cell 1
      have HA := Lib.hid G2
      have hsu := sumL_take_succ he
      have hb := sumL_take_le l (k + 1)
      rw [← HSU.out] at hb
      obtain ⟨s1, hs1⟩ : ∃ s1, s1 = sumL (l.take k) := ⟨_, rfl⟩
      obtain ⟨s2, hs2⟩ : ∃ s2, s2 = sumL (l.take (k + 1)) := ⟨_, rfl⟩
      rw [← hs1, ← hs2] at hsu
      rw [← hs2] at hb
      rw [← hs1]
      have hsi : (s1 : Int) + (e.2 : Int) = (s2 : Int) := by omega
      have HS2 := Lib.hid hs2
      subst hao1 hao2
      clear hs1 hs2 q he x1 x2 y1 y2 ga G2 G hb1 hb2 hsu
      go_wp2_with fail
      go_quiet (fail)
      go_wp2_with fail
      go_roundw
      case rel => exact ⟨k + 1, by omega, by simp, by rw [HS2.out], HA.out.drewN _⟩
      case measure => simp [intOf]; omega
    · obtain rfl : k = L := by omega
      have ht : l.take k = l := by rw [HL.out]; exact List.take_length
      rw [ht, ← HSU.out]
      have H4 := Lib.hid (And.intro (H3.out.1.gr0 G) (H3.out.2.1.next0 G))
      clear ht H3 G
      go_wp2_with fail
      go_loopw [60] (fun i wr => ∃ b : Nat, b ≤ N ∧ i = .int .i64 b ∧ Holds wr B #[.int .i64 N, .slice ao k cap] 25 ∧ Gr [] w wr) (fun i _ => N - (intOf i).toNat)
      case atStart => exact ⟨0, by omega, rfl, H4.out.1, H4.out.2⟩
      case round =>
        clear H4
        obtain ⟨b, hb, rfl, hB, hG⟩ := hrel
        have H5 := Lib.hid (And.intro hB hG)
        have k0 := hB.cell 0
        have k1 := hB.cell 1
        clear hB hG
        by_cases hbN : b < N
        · have hbN2 : (b : Int) < (N : Int) := by omega
          obtain ⟨bm, om, hao2, hbm, z1⟩ := HM.out _ H5.out.2 b hbN
          have hf : hasB l (b : Int) = m b := by rw [HH.out, decide_eq_true hbN, Bool.true_and]
          subst hao2
          have HF := Lib.hid hf
          clear hf
          generalize m b = f at *
          go_wp2_with fail
          refine (ahas_is N l ao cap k (b : Int) f wr (HS.out _ H5.out.2) HL.out HF.out).mono ?_
          rintro e w6 ⟨rfl, g6⟩
          have H6 := Lib.hid (And.intro (H5.out.1.gr0 g6) (H5.out.2.next0 g6))
          clear H5 k0 k1 g6 z1
          go_wp2_with fail
          go_roundw
          case rel => exact ⟨b + 1, by omega, by simp, H6.out.1, H6.out.2⟩
          case measure => simp [intOf]; omega
        · have hbN2 : ¬ (b : Int) < (N : Int) := by omega
          go_wp2_with fail
          refine (afree_is N l ao cap k s wr (HS.out _ H5.out.2) HL.out HSU.out).mono ?_
          rintro e w6 ⟨rfl, g6⟩
          have H6 := Lib.hid (And.intro (H5.out.1.gr0 g6) (H5.out.2.next0 g6))
          clear H5 k0 k1 g6
          have k0 := H6.out.1.cell 0
          have k1 := H6.out.1.cell 1
          go_wp2_with fail
          refine (ahas_is N l ao cap k (-1) false w6 (HS.out _ H6.out.2) HL.out (hasB_neg l (-1) (by omega))).mono ?_
          rintro e w7 ⟨rfl, g7⟩
          have H7 := Lib.hid (And.intro (H6.out.1.gr0 g7) (H6.out.2.next0 g7))
          clear H6 k0 k1 g7
          have k0 := H7.out.1.cell 0
          have k1 := H7.out.1.cell 1
          go_wp2_with fail
          refine (ahas_is N l ao cap k (N : Int) false w7 (HS.out _ H7.out.2) HL.out (by rw [HH.out]; simp)).mono ?_
          rintro e w8 ⟨rfl, g8⟩
          have H8 := Lib.hid (H7.out.2.next0 g8)
          clear H7 k0 k1 g8
          go_wp2_with fail
          go_ret
          exact ⟨rfl, H8.out⟩

end Go.Proofs.Ytpkhfdcokcchdaa
