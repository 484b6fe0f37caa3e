/-
  SkAm: SpZ, Gap, GapB, GapC, GapF, GapG, RgA.
-/
import Derived.Test.YtifekejcbhllpaaGreatSkAl
import Derived.Test.YtifekejcbhllpaaGreatSkAe
import Derived.Test.YtifekejcbhllpaaGreatSkAa
import Derived.Test.YtifekejcbhllpaaGreatSkAf
import Derived.Test.YtifekejcbhllpaaGreatSkAk
import Derived.Test.YtifekejcbhllpaaGreatSkAj
import Derived.Test.YtifekejcbhllpaaGreatRows
import Derived.WalkKit
import Derived.Handy
import Derived.Lib.Hide
import Derived.Deep.QuietTactic
import Derived.BigQuiet

set_option linter.unusedVariables false

/-
  Layer 5: WriteWord.
-/
namespace Go.Proofs.YtifekejcbhllpaaGreat
open Go.RowKit

section
variable {w : World} {q : BkA} {a : DevA} {p : PlanZ} {B : BkS} {m c : Nat} {D : DevS}
set_option maxRecDepth 100000 in
set_option maxHeartbeats 8000000 in
theorem bww_any (i k : Int) (v : Nat) (h : BkIs w q a p B m) (hd : DevIs w a D) (hb : Bd D c) (hc : c < 700000000) (hv : v < 18446744073709551616) (hn : p.a + sizeZ p ≤ (D.n : Int)) (hm : m < 90000000) :
    Calls Tryz.prog 115 #[.pointer (some ⟨q.b, 0, none⟩), .int .i64 i, .int .i64 k, .int .u64 (v : Int)] w (WrPost w q a p m c (writeWordS p i k v D B)) := by
  have c0 := h.c0
  have H := Lib.hid (And.intro h (And.intro hd hb))
  by_cases hk : k < 0 ∨ 8 ≤ k
  · have HX := Lib.hid (show writeWordS p i k v D B = (2, D, B) by unfold writeWordS; rw [if_pos hk])
    rcases hk with hk | hk
    all_goals
      clear h hd hb
      go_enter Tryz.func115, Tryz.ntmps115
      go_wp2_with fail
      go_ret
      rw [HX.out]
      exact ⟨rfl, H.out.2.1, H.out.2.2.mono (by omega), H.out.1.moreN _ (by omega), Gr.refl _ _⟩
  · obtain ⟨kN, rfl⟩ : ∃ kN : Nat, k = (kN : Int) := ⟨k.toNat, by omega⟩
    have hk8 : kN < 8 := by omega
    have k0 : (0 : Int) ≤ (kN : Int) := by omega
    have k1 : (kN : Int) < 8 := by omega
    by_cases hi : inP p i
    · have HW := Lib.hid (where_in i h hi)
      obtain ⟨l, hl, hln⟩ := place_in h hn hi
      rw [hl] at HW
      have HI := Lib.hid hi
      by_cases ho : D.off = true
      · have HX := Lib.hid (show writeWordS p i (kN : Int) v D B = (6, D, B) by unfold writeWordS; rw [if_neg hk, if_pos hi, if_pos ho])
        have he : reachE D (isLine D (l : Int)) = 6 := by unfold reachE; rw [if_pos ho]
        have HGt := Lib.hid (fun W (hd : DevIs W a D) => get_err a D (l : Int) W hd (by rw [he]; decide))
        rw [he] at HGt
        clear h hd hb hn hi hl ho he hk
        go_enter Tryz.func115, Tryz.ntmps115
        go_wp2_with fail
        refine HW.out.mono ?_
        rintro e w1 ⟨rfl, g1⟩
        have HG1 := Lib.hid g1
        have c0 := (H.out.1.gr0 g1).c0
        clear g1
        go_wp2_with fail
        refine (HGt.out _ (H.out.2.1.gr0 HG1.out)).mono ?_
        rintro e w2 ⟨rfl, rfl⟩
        go_wp2_with fail
        go_ret
        rw [HX.out]
        exact ⟨rfl, H.out.2.1.gr0 HG1.out, H.out.2.2.mono (by omega), (H.out.1.gr0 HG1.out).moreN _ (by omega), HG1.out.of0⟩
      · have ho : D.off = false := by simpa using ho
        have hF : ∀ j, lineF D l j < 18446744073709551616 := fun j => loadV_lt hd.ok _
        obtain ⟨F, hFe⟩ : ∃ F, F = lineF D l := ⟨_, rfl⟩
        rw [← hFe] at hF
        have HX := Lib.hid (show writeWordS p i (kN : Int) v D B = if (pwE D (l : Int) (kN : Int) v).1 ≠ 0 then ((pwE D (l : Int) (kN : Int) v).1, (pwE D (l : Int) (kN : Int) v).2, B) else ensureS p i (l : Int) (textU (updF F kN v)) (pwE D (l : Int) (kN : Int) v).2 B by
          unfold writeWordS; rw [if_neg hk, if_pos hi, ho, hl, hFe]; simp)
        have HGt := Lib.hid (fun W (hd : DevIs W a D) => get_yes a D l W hd hln ho)
        rw [lineF_text, ← hFe] at HGt
        have HWd := Lib.hid (fun W => words_ok (textU F) W (textU_size F))
        rw [words_textU F hF] at HWd
        have hF2 : ∀ j, updF F kN v j < 18446744073709551616 := fun j => by unfold updF; split; exact hv; exact hF j
        have HTx := Lib.hid (fun W => text_any (updF F kN v 0) (updF F kN v 1) (updF F kN v 2) (updF F kN v 3) (updF F kN v 4) (updF F kN v 5) (updF F kN v 6) (updF F kN v 7) (fun n hn => by
          simp only [List.mem_cons, List.not_mem_nil, or_false] at hn
          rcases hn with rfl | rfl | rfl | rfl | rfl | rfl | rfl | rfl <;> exact hF2 _) W)
        have HPW := Lib.hid (fun W (hW : DevIs W a D) => putword_any a D (l : Int) (kN : Int) v c W hW hb (by omega) hv)
        have HK := Lib.hid hk8
        clear h hd hb hn hi hl ho hk hF hF2 hFe hln
        obtain ⟨T, hT⟩ : ∃ T, T = textU F := ⟨_, rfl⟩
        rw [← hT] at HGt HWd
        clear hT
        go_enter Tryz.func115, Tryz.ntmps115
        go_wp2_with fail
        refine HW.out.mono ?_
        rintro e w1 ⟨rfl, g1⟩
        have HG1 := Lib.hid g1
        have c0 := (H.out.1.gr0 g1).c0
        clear g1
        go_wp2_with fail
        refine (HGt.out _ (H.out.2.1.gr0 HG1.out)).mono ?_
        rintro e w2 ⟨rfl, g2⟩
        have HG2 := Lib.hid (HG1.out.next0 g2)
        clear g2
        go_wp2_with fail
        refine (HWd.out _).mono ?_
        rintro e w3 ⟨rfl, g3⟩
        have HG3 := Lib.hid (HG2.out.next0 g3)
        clear g3
        unfold rowU
        go_upto_region 14 with fail
        have hH : Holds _ w3.heap.size (rowU F) 155 := Holds.new w3 #[.int .u64 (F 0 : Int), .int .u64 (F 1 : Int), .int .u64 (F 2 : Int), .int .u64 (F 3 : Int), .int .u64 (F 4 : Int), .int .u64 (F 5 : Int), .int .u64 (F 6 : Int), .int .u64 (F 7 : Int)] 155
        have gA := (Gr.refl [] w3).alloc (Obj.cells #[.int .u64 (F 0 : Int), .int .u64 (F 1 : Int), .int .u64 (F 2 : Int), .int .u64 (F 3 : Int), .int .u64 (F 4 : Int), .int .u64 (F 5 : Int), .int .u64 (F 6 : Int), .int .u64 (F 7 : Int)] 155)
        have HNB := Lib.hid (show w3.heap.size ∉ a.all ∧ w3.heap.size ∉ q.all from ⟨fun e => by have := (H.out.2.1.gr0 HG3.out).lt _ e; omega, fun e => by have := (H.out.1.gr0 HG3.out).lt _ e; omega⟩)
        have HW4 := Lib.hid (Nat.le_trans HG3.out.size (Nat.le_refl w3.heap.size))
        have HG4 := Lib.hid (HG3.out.trans gA)
        clear gA HG3
        generalize w3.alloc (Obj.cells #[.int .u64 (F 0 : Int), .int .u64 (F 1 : Int), .int .u64 (F 2 : Int), .int .u64 (F 3 : Int), .int .u64 (F 4 : Int), .int .u64 (F 5 : Int), .int .u64 (F 6 : Int), .int .u64 (F 7 : Int)] 155) = w4 at *
        obtain ⟨nb, hnb⟩ : ∃ nb, w3.heap.size = nb := ⟨_, rfl⟩
        rw [hnb] at hH HNB HW4 ⊢
        clear hnb
        have st1 := (hH.cell kN).trans (rowU_get F HK.out)
        have st2 := hH.frozen kN
        have hset := hH.set kN (.int .u64 (v : Int))
        rw [rowU_set F v HK.out] at hset
        have g5 : Gr [] w (w4.setCell ⟨nb, kN, none⟩ (.int .u64 (v : Int))) := HG4.out.setCell (p := ⟨nb, kN, none⟩) (.inr HW4.out) _
        have g45 : Gr [nb] w4 (w4.setCell ⟨nb, kN, none⟩ (.int .u64 (v : Int))) := (Gr.refl [nb] w4).setCell (p := ⟨nb, kN, none⟩) (.inl (by simp)) _
        have H5 := Lib.hid (And.intro (H.out.1.gr0 g5) (And.intro (H.out.2.1.gr0 g5) (And.intro hset g5)))
        clear hH hset g5 g45 HG4
        go_upto_region 15 with fail
        clear st1 st2
        generalize w4.setCell ⟨nb, kN, none⟩ (.int .u64 (v : Int)) = w5 at *
        have c0 := H5.out.1.c0
        go_wp2_with fail
        refine (HPW.out _ H5.out.2.1).mono ?_
        rintro e w6 ⟨rfl, hd6, hb6, g6⟩
        have H6 := Lib.hid (And.intro hd6 (And.intro hb6 (And.intro (H5.out.1.grD g6) (And.intro (H5.out.2.2.1.gr g6 HNB.out.1) (H5.out.2.2.2.of0.trans g6)))))
        clear hd6 hb6 g6 H5
        obtain ⟨e1, he1⟩ : ∃ e1, e1 = (pwE D (l : Int) (kN : Int) v).1 := ⟨_, rfl⟩
        obtain ⟨D1, hD1⟩ : ∃ D1, D1 = (pwE D (l : Int) (kN : Int) v).2 := ⟨_, rfl⟩
        rw [← he1] at HX ⊢
        rw [← hD1] at H6 HX
        clear he1 hD1
        by_cases hz0 : e1 = 0
        · subst hz0
          rw [if_neg (by simp)] at HX
          have y0 := (H6.out.2.2.2.1.cell 0)
          have y1 := (H6.out.2.2.2.1.cell 1)
          have y2 := (H6.out.2.2.2.1.cell 2)
          have y3 := (H6.out.2.2.2.1.cell 3)
          have y4 := (H6.out.2.2.2.1.cell 4)
          have y5 := (H6.out.2.2.2.1.cell 5)
          have y6 := (H6.out.2.2.2.1.cell 6)
          have y7 := (H6.out.2.2.2.1.cell 7)
          rw [rowU_get _ (by omega)] at y0 y1 y2 y3 y4 y5 y6 y7
          have HEn := Lib.hid (fun W (g : Gr [] w6 W) => ensure_any (m := m) i (l : Int) (textU (updF F kN v)) (H6.out.2.2.1.gr0 g) (H6.out.1.gr0 g) H6.out.2.1 (by omega) (by rw [textU_size]; unfold maxLen; omega) HI.out hm)
          rw [← HX.out] at HEn
          go_wp2_with fail
          refine (HTx.out _).mono ?_
          rintro e w7 ⟨rfl, b7⟩
          have g7 := Gr.ofBelow (cs := []) b7
          have HG7 := Lib.hid g7
          clear b7 g7
          go_wp2_with fail
          refine (HEn.out _ HG7.out).mono ?_
          rintro e w8 ⟨rfl, hd8, hb8, hk8', g8⟩
          have H8 := Lib.hid (And.intro hd8 (And.intro hb8 (And.intro hk8' (((H6.out.2.2.2.2.mono (fun b hb => by simp [hb])).next0 HG7.out).trans g8))))
          clear hd8 hb8 hk8' g8
          go_wp2_with fail
          go_ret
          exact ⟨rfl, H8.out.1, H8.out.2.1.mono (by omega), H8.out.2.2.1, H8.out.2.2.2⟩
        · have b1 : (e1 != 0) = true := by simpa using hz0
          rw [if_pos hz0] at HX
          clear hz0
          go_wp2_with fail
          go_ret
          rw [HX.out]
          exact ⟨rfl, H6.out.1, H6.out.2.1.mono (by omega), H6.out.2.2.1.moreN _ (by omega), H6.out.2.2.2.2.mono (fun b hb => by simp [hb])⟩
    · have HW := Lib.hid (where_out i h hi)
      have HX := Lib.hid (show writeWordS p i (kN : Int) v D B = (3, D, B) by unfold writeWordS; rw [if_neg hk, if_neg hi])
      clear h hd hb hi hk
      go_enter Tryz.func115, Tryz.ntmps115
      go_wp2_with fail
      refine HW.out.mono ?_
      rintro e w1 ⟨rfl, hw⟩
      rw [hw]
      go_wp2_with fail
      go_ret
      rw [HX.out]
      exact ⟨rfl, H.out.2.1, H.out.2.2.mono (by omega), H.out.1.moreN _ (by omega), Gr.refl _ _⟩
end
end Go.Proofs.YtifekejcbhllpaaGreat

/-
  Contracts of package gap's functions.
-/
namespace Go.Proofs.YtifekejcbhllpaaGreat
open Go.RowKit

/-- May such a state be, of so many lines? -/
def rightS (s g n : Int) : Prop := 1 ≤ n ∧ n ≤ 1024 ∧ 0 ≤ s ∧ s < n ∧ 0 ≤ g ∧ g ≤ n
instance (s g n : Int) : Decidable (rightS s g n) := by unfold rightS; infer_instance
def stC (s g m : Int) : Obj := .cells #[.int .i64 s, .int .i64 g, .int .u32 m] 142

theorem ring_yes (n : Int) (w : World) (h1 : 1 ≤ n) (h2 : n ≤ 1024) : Calls Tryz.prog 147 #[.int .i64 n] w fun e w' => e = .returned (.bool true) ∧ w = w' := by
  go_enter Tryz.func147, Tryz.ntmps147
  go_wp2
  go_ret
  exact ⟨by first | rfl | (simp; omega), rfl⟩
theorem ring_no (n : Int) (w : World) (h : n < 1 ∨ (1 ≤ n ∧ 1024 < n)) : Calls Tryz.prog 147 #[.int .i64 n] w fun e w' => e = .returned (.bool false) ∧ w = w' := by
  rcases h with h | ⟨h, h'⟩
  all_goals
    go_enter Tryz.func147, Tryz.ntmps147
    go_wp2
    go_ret
    exact ⟨by first | rfl | (simp; omega), rfl⟩

set_option maxHeartbeats 800000 in
theorem right_yes (s g m n : Int) (w : World) (h : rightS s g n) : Calls Tryz.prog 124 #[.agg #[.int .i64 s, .int .i64 g, .int .u32 m], .int .i64 n] w fun e w' => e = .returned (.bool true) ∧ w.alloc (stC s g m) = w' := by
  obtain ⟨h1, h2, h3, h4, h5, h6⟩ := h
  go_enter Tryz.func124, Tryz.ntmps124
  go_wp2_with (go_at_call 147; refine (ring_yes _ _ (by omega) (by omega)).mono ?_; rintro e w' ⟨rfl, rfl⟩)
  go_ret
  exact ⟨by first | rfl | (simp; omega), rfl⟩
def slotI (s g n i : Int) : Int := if (i + s) % n < g then (i + s) % n else (i + s) % n + 1
set_option maxHeartbeats 800000 in
theorem slot_yes (s g m n i : Int) (w : World) (h : rightS s g n) (h0 : 0 ≤ i) (h1 : i < n) :
    Calls Tryz.prog 106 #[.agg #[.int .i64 s, .int .i64 g, .int .u32 m], .int .i64 n, .int .i64 i] w fun e w' => e = .returned (.int .i64 (slotI s g n i)) ∧ Below w.heap.size w w' := by
  have H := Lib.hid h
  obtain ⟨a1, a2, a3, a4, a5, a6⟩ := h
  have q1 := Int.emod_nonneg (i + s) (show n ≠ 0 by omega)
  have q2 := Int.emod_lt_of_pos (i + s) (show 0 < n by omega)
  by_cases c : (i + s) % n < g
  · have e : slotI s g n i = (i + s) % n := by unfold slotI; rw [if_pos c]
    rw [e]
    clear e
    go_enter Tryz.func106, Tryz.ntmps106
    go_wp2_with (go_at_call 124; refine (right_yes _ _ _ _ _ H.out).mono ?_; rintro e w' ⟨rfl, rfl⟩; unfold stC)
    go_ret
    exact ⟨rfl, by go_grown⟩
  · have e : slotI s g n i = (i + s) % n + 1 := by unfold slotI; rw [if_neg c]
    rw [e]
    clear e
    go_enter Tryz.func106, Tryz.ntmps106
    go_wp2_with (go_at_call 124; refine (right_yes _ _ _ _ _ H.out).mono ?_; rintro e w' ⟨rfl, rfl⟩; unfold stC)
    go_ret
    exact ⟨rfl, by go_grown⟩
end Go.Proofs.YtifekejcbhllpaaGreat

/-
  Contracts of gap's Next and First.
-/
namespace Go.Proofs.YtifekejcbhllpaaGreat
open Go.RowKit

def m1 (m : Int) : Int := (m + 1) % 4294967296

set_option maxHeartbeats 800000 in
theorem next_pos (s g m n : Int) (w : World) (h : rightS s g n) (hg : 0 < g) (hm : 0 ≤ m ∧ m ≤ 4294967295) :
    Calls Tryz.prog 176 #[.agg #[.int .i64 s, .int .i64 g, .int .u32 m], .int .i64 n] w fun e w' => e = .returned (.tuple #[.agg #[.int .i64 s, .int .i64 (g - 1), .int .u32 (m1 m)], .int .i64 (g - 1), .int .i64 g]) ∧ Below w.heap.size w w' := by
  have H := Lib.hid h
  obtain ⟨a1, a2, a3, a4, a5, a6⟩ := h
  go_enter Tryz.func176, Tryz.ntmps176
  go_wp2_with (go_at_call 124; refine (right_yes _ _ _ _ _ H.out).mono ?_; rintro e w' ⟨rfl, rfl⟩; unfold stC)
  go_region
  go_wp2
  exact bodyPost_ret (v := .tuple #[(.agg #[.int .i64 s, .int .i64 (g - 1), .int .u32 ((m + 1) % 4294967296)]), .int .i64 (g - 1), .int .i64 g]) (by simp [results, Tryz.results176, go_sem]) rfl ⟨rfl, by go_grown⟩
set_option maxHeartbeats 800000 in
theorem next_zero (s m n : Int) (w : World) (h : rightS s 0 n) (hm : 0 ≤ m ∧ m ≤ 4294967295) :
    Calls Tryz.prog 176 #[.agg #[.int .i64 s, .int .i64 0, .int .u32 m], .int .i64 n] w fun e w' => e = .returned (.tuple #[.agg #[.int .i64 ((s + 1) % n), .int .i64 n, .int .u32 (m1 m)], .int .i64 n, .int .i64 0]) ∧ Below w.heap.size w w' := by
  have H := Lib.hid h
  obtain ⟨a1, a2, a3, a4, a5, a6⟩ := h
  go_enter Tryz.func176, Tryz.ntmps176
  go_wp2_with (go_at_call 124; refine (right_yes _ _ _ _ _ H.out).mono ?_; rintro e w' ⟨rfl, rfl⟩; unfold stC)
  exact bodyPost_ret (v := .tuple #[(.agg #[.int .i64 ((s + 1) % n), .int .i64 n, .int .u32 ((m + 1) % 4294967296)]), .int .i64 n, .int .i64 0]) (by simp [results, Tryz.results176, go_sem]) rfl ⟨rfl, by go_grown⟩
theorem first_any (n : Int) (w : World) (h1 : 1 ≤ n) (h2 : n ≤ 1024) :
    Calls Tryz.prog 117 #[.int .i64 n] w fun e w' => e = .returned (.agg #[.int .i64 0, .int .i64 n, .int .u32 0]) ∧ Below w.heap.size w w' := by
  go_enter Tryz.func117, Tryz.ntmps117
  go_wp2_with (go_at_call 147; refine (ring_yes _ _ (by omega) (by omega)).mono ?_; rintro e w' ⟨rfl, rfl⟩)
  exact bodyPost_ret (v := .agg #[.int .i64 0, .int .i64 n, .int .u32 0]) (by simp [results, Tryz.results117, go_sem]) rfl ⟨rfl, by go_grown⟩
end Go.Proofs.YtifekejcbhllpaaGreat

/-
  Contracts of the helpers of layer 6's statements.
-/
namespace Go.Proofs.YtifekejcbhllpaaGreat
open Go.RowKit

/-! ### The state behind so many moves, in numbers -/
theorem div_next (j M : Nat) (_hM : 0 < M) (h : j % M + 1 < M) : (j + 1) / M = j / M ∧ (j + 1) % M = j % M + 1 := by
  have e : j + 1 = M * (j / M) + (j % M + 1) := by have := Nat.div_add_mod j M; omega
  constructor
  · conv => lhs; rw [e]
    rw [Nat.mul_add_div (by omega), Nat.div_eq_of_lt h, Nat.add_zero]
  · conv => lhs; rw [e]
    rw [Nat.mul_add_mod, Nat.mod_eq_of_lt h]
theorem div_wrap (j M : Nat) (_hM : 0 < M) (h : ¬ j % M + 1 < M) : (j + 1) / M = j / M + 1 ∧ (j + 1) % M = 0 := by
  have hl := Nat.mod_lt j (show 0 < M by omega)
  have e : j + 1 = M * (j / M + 1) := by have := Nat.div_add_mod j M; rw [Nat.mul_add]; omega
  constructor
  · conv => lhs; rw [e]
    rw [Nat.mul_div_cancel_left _ (by omega)]
  · conv => lhs; rw [e]
    rw [Nat.mul_mod_right]

/-- Start and Gap behind j moves from the first state. -/
def sAt (m j : Nat) : Int := ((j / (m + 1) % m : Nat) : Int)
def gAt (m j : Nat) : Int := (m : Int) - ((j % (m + 1) : Nat) : Int)
theorem at_right (m j : Nat) (h1 : 1 ≤ m) (h2 : m ≤ 1024) : rightS (sAt m j) (gAt m j) m := by
  unfold rightS sAt gAt
  have a := Nat.mod_lt (j / (m + 1)) (show 0 < m by omega)
  have b := Nat.mod_lt j (show 0 < m + 1 by omega)
  omega
theorem at_pos (m j : Nat) (_h1 : 1 ≤ m) (h : 0 < gAt m j) : sAt m (j + 1) = sAt m j ∧ gAt m (j + 1) = gAt m j - 1 := by
  unfold gAt at h
  obtain ⟨a, b⟩ := div_next j (m + 1) (by omega) (by omega)
  unfold sAt gAt
  rw [a, b]
  exact ⟨rfl, by omega⟩
theorem at_zero (m j : Nat) (h1 : 1 ≤ m) (h : gAt m j = 0) : sAt m (j + 1) = (sAt m j + 1) % m ∧ gAt m (j + 1) = m := by
  unfold gAt at h
  obtain ⟨a, b⟩ := div_wrap j (m + 1) (by omega) (by omega)
  unfold sAt gAt
  rw [a, b]
  constructor
  · have : (j / (m + 1) + 1) % m = (j / (m + 1) % m + 1) % m := by rw [Nat.mod_add_mod]
    rw [this]; rfl
  · simp

/-! ### A block that holds a state -/
def StB (w : World) (b : Nat) (s g m : Int) : Prop := w.heap[b]? = some (stC s g m)
section
variable {w w' : World} {b : Nat} {s g m : Int}
theorem StB.lt (h : StB w b s g m) : b < w.heap.size := (Array.getElem?_eq_some_iff.1 h).1
end

end Go.Proofs.YtifekejcbhllpaaGreat

/-
  Contracts of Pack and Unpack.
-/
namespace Go.Proofs.YtifekejcbhllpaaGreat
open Go.RowKit

/-- A state as a word. -/
def pkI (s g m : Int) : Int := m * 4294967296 + g % 65536 * 65536 + s % 65536
theorem pkI_b (s g m : Int) (hm : 0 ≤ m ∧ m ≤ 4294967295) : 0 ≤ pkI s g m ∧ pkI s g m < 18446744073709551616 := by unfold pkI; omega
theorem pk_a (S : Nat) : withN 0 0 16 S = S % 65536 := by
  unfold withN
  rw [if_pos (by unfold okF; omega)]
  show (0 / 2 ^ (0 + 16)) * 2 ^ (0 + 16) + (S % 2 ^ 16) * 2 ^ 0 + 0 % 2 ^ 0 = _
  omega
theorem pk_b (x G : Nat) (hx : x < 65536) : withN x 16 16 G = G % 65536 * 65536 + x := by
  unfold withN
  rw [if_pos (by unfold okF; omega)]
  show (x / 2 ^ (16 + 16)) * 2 ^ (16 + 16) + (G % 2 ^ 16) * 2 ^ 16 + x % 2 ^ 16 = _
  omega
theorem pk_c (x M : Nat) (hx : x < 4294967296) (hM : M < 4294967296) : withN x 32 32 M = M * 4294967296 + x := by
  unfold withN
  rw [if_pos (by unfold okF; omega)]
  show (x / 2 ^ (32 + 32)) * 2 ^ (32 + 32) + (M % 2 ^ 32) * 2 ^ 32 + x % 2 ^ 32 = _
  omega
theorem f_a (n : Nat) : fieldN n 0 16 = n % 65536 := by
  unfold fieldN
  rw [if_pos (by unfold okF; omega)]
  show n / 2 ^ 0 % 2 ^ 16 = _
  omega
theorem f_b (n : Nat) : fieldN n 16 16 = n / 65536 % 65536 := by
  unfold fieldN
  rw [if_pos (by unfold okF; omega)]
  show n / 2 ^ 16 % 2 ^ 16 = _
  omega
theorem f_c (n : Nat) (hn : n < 18446744073709551616) : fieldN n 32 32 = n / 4294967296 := by
  unfold fieldN
  rw [if_pos (by unfold okF; omega)]
  show n / 2 ^ 32 % 2 ^ 32 = _
  omega
/-- An int, made a word. -/
theorem u64_of (x : Int) : ∃ n : Nat, IntKind.u64.wrap x = (n : Int) ∧ n < 18446744073709551616 ∧ ((n % 65536 : Nat) : Int) = x % 65536 := by
  refine ⟨(x % 18446744073709551616).toNat, ?_, by omega, by omega⟩
  rw [IntKind.wrap_u64]; omega

set_option maxHeartbeats 800000 in
theorem pack_any (s g m : Int) (w : World) (hm : 0 ≤ m ∧ m ≤ 4294967295) :
    Calls Tryz.prog 118 #[.agg #[.int .i64 s, .int .i64 g, .int .u32 m]] w fun e w' => e = .returned (.int .u64 (pkI s g m)) ∧ w.alloc (stC s g m) = w' := by
  obtain ⟨S, hS, hS1, hS2⟩ := u64_of s
  obtain ⟨G, hG, hG1, hG2⟩ := u64_of g
  obtain ⟨M, rfl⟩ := Int.eq_ofNat_of_zero_le hm.1
  have hM : M < 4294967296 := by omega
  obtain ⟨x, hx, hxb⟩ : ∃ x : Nat, withN 0 0 16 S = x ∧ x = S % 65536 := ⟨_, pk_a S, rfl⟩
  obtain ⟨y, hy, hyb⟩ : ∃ y : Nat, withN x 16 16 G = y ∧ y = G % 65536 * 65536 + x := ⟨_, pk_b x G (by omega), rfl⟩
  obtain ⟨z, hz, hzb⟩ : ∃ z : Nat, withN y 32 32 M = z ∧ z = M * 4294967296 + y := ⟨_, pk_c y M (by omega) hM, rfl⟩
  have hfin : (z : Int) = pkI s g M := by unfold pkI; omega
  have hb1 : x < 18446744073709551616 := by omega
  have hb2 : y < 18446744073709551616 := by omega
  clear hxb hyb hzb
  have p1 := Lib.hid hx
  have p2 := Lib.hid hy
  have p3 := Lib.hid hz
  have HF := Lib.hid hfin
  clear hx hy hz
  clear hfin hS2 hG2
  go_enter Tryz.func118, Tryz.ntmps118
  go_wp2_with fail
  refine (with_any 0 _ _ S _ (by omega) (by omega) (by omega)).mono ?_
  rintro e w1 ⟨rfl, rfl⟩
  rw [p1.out]
  go_wp2_with fail
  refine (with_any x _ _ G _ hb1 (by omega) (by omega)).mono ?_
  rintro e w1 ⟨rfl, rfl⟩
  rw [p2.out]
  go_wp2_with fail
  refine (with_any y _ _ M _ hb2 (by omega) (by omega)).mono ?_
  rintro e w1 ⟨rfl, rfl⟩
  rw [p3.out]
  go_wp2_with fail
  go_ret
  exact ⟨by rw [← HF.out] <;> rfl, rfl⟩

def unS (n : Nat) : Int := ((n % 65536 : Nat) : Int)
def unG (n : Nat) : Int := ((n / 65536 % 65536 : Nat) : Int)
def unM (n : Nat) : Int := ((n / 4294967296 : Nat) : Int)
set_option maxHeartbeats 800000 in
theorem unpack_any (n : Nat) (w : World) (hn : n < 18446744073709551616) :
    Calls Tryz.prog 123 #[.int .u64 n] w fun e w' => e = .returned (.agg #[.int .i64 (unS n), .int .i64 (unG n), .int .u32 (unM n)]) ∧ Below w.heap.size w w' := by
  have e1 : ((fieldN n 0 16 : Nat) : Int) = unS n := by rw [f_a]; rfl
  have e2 : ((fieldN n 16 16 : Nat) : Int) = unG n := by rw [f_b]; rfl
  have e3 : ((fieldN n 32 32 : Nat) : Int) = unM n := by rw [f_c n hn]; rfl
  have b1 : 0 ≤ unS n ∧ unS n ≤ 65535 := by unfold unS; omega
  have b2 : 0 ≤ unG n ∧ unG n ≤ 65535 := by unfold unG; omega
  have b3 : 0 ≤ unM n ∧ unM n ≤ 4294967295 := by unfold unM; omega
  go_enter Tryz.func123, Tryz.ntmps123
  go_wp2_with fail
  refine (field_any n _ _ _ hn (by omega) (by omega)).mono ?_
  rintro e w1 ⟨rfl, rfl⟩
  rw [e1]
  go_wp2_with fail
  refine (field_any n _ _ _ hn (by omega) (by omega)).mono ?_
  rintro e w1 ⟨rfl, rfl⟩
  rw [e2]
  go_wp2_with fail
  refine (field_any n _ _ _ hn (by omega) (by omega)).mono ?_
  rintro e w1 ⟨rfl, rfl⟩
  rw [e3]
  go_wp2_with fail
  exact bodyPost_ret (v := .agg #[.int .i64 (unS n), .int .i64 (unG n), .int .u32 (unM n)]) (by simp [results, Tryz.results123, go_sem]) rfl ⟨rfl, by go_grown⟩

end Go.Proofs.YtifekejcbhllpaaGreat

/-
  The walk of GapPacks.
-/
namespace Go.Proofs.YtifekejcbhllpaaGreat
open Go.RowKit

theorem pack_bel (s g m : Int) (w : World) (hm : 0 ≤ m ∧ m ≤ 4294967295) :
    Calls Tryz.prog 118 #[.agg #[.int .i64 s, .int .i64 g, .int .u32 m]] w fun e w' => e = .returned (.int .u64 (pkI s g m)) ∧ Below w.heap.size w w' :=
  (pack_any s g m w hm).mono fun e w' ⟨he, hw⟩ => ⟨he, hw ▸ below_new (Below.refl _ _) _⟩
theorem unpack_pk (s g m : Int) (w : World) (hm : 0 ≤ m ∧ m ≤ 4294967295) (hs : 0 ≤ s ∧ s ≤ 65535) (hg : 0 ≤ g ∧ g ≤ 65535) :
    Calls Tryz.prog 123 #[.int .u64 (pkI s g m)] w fun e w' => e = .returned (.agg #[.int .i64 s, .int .i64 g, .int .u32 m]) ∧ Below w.heap.size w w' := by
  obtain ⟨n, hn⟩ := Int.eq_ofNat_of_zero_le (pkI_b s g m hm).1
  have hl := (pkI_b s g m hm).2
  rw [hn] at hl
  have hn' := hn
  unfold pkI at hn'
  have e1 : unS n = s := by unfold unS; omega
  have e2 : unG n = g := by unfold unG; omega
  have e3 : unM n = m := by unfold unM; omega
  rw [hn, ← e1, ← e2, ← e3]
  exact unpack_any n w (by omega)
end Go.Proofs.YtifekejcbhllpaaGreat

/-
  Layer 7: a region in memory; Bank, Check, register, find, slot, State, Since.
-/
namespace Go.Proofs.YtifekejcbhllpaaGreat
open Go.RowKit
set_option linter.unusedVariables false

structure PlanR where
  a : Int
  l : Nat
  s : Int
  psi : Int
def bankR (P : PlanR) : PlanZ := ⟨P.a, (P.l : Int) + 2, P.s⟩
structure OkR (P : PlanR) : Prop where
  l1 : 1 ≤ P.l
  l2 : P.l ≤ 1024
  p1 : 1 ≤ P.psi
  p2 : P.psi ≤ 65535
  ok : okZ (bankR P) = true
def planRV (P : PlanR) : Value := .agg #[.int .i64 P.a, .int .i64 (P.l : Int), .int .i64 P.s, .int .i64 P.psi]
/-- The state's numbers behind j moves. -/
def stJ (P : PlanR) (j : Nat) : Value := .agg #[.int .i64 (sAt P.l j), .int .i64 (gAt P.l j), .int .u32 (j : Int)]
def rgRow (P : PlanR) (q : BkA) (j c : Nat) : Array Value := #[.int .i64 P.a, .int .i64 (P.l : Int), .int .i64 P.s, .int .i64 P.psi, .pointer (some ⟨q.b, 0, none⟩), .int .i64 (sAt P.l j), .int .i64 (gAt P.l j), .int .u32 (j : Int), .int .i64 (c : Int)]
/-- A region in memory, behind j moves, c writes since the last. -/
structure RgIs (w : World) (kb : Nat) (q : BkA) (a : DevA) (P : PlanR) (B : BkS) (m j c : Nat) : Prop where
  head : Holds w kb (rgRow P q j c) 144
  bk : BkIs w q a (bankR P) B m
  ok : OkR P
  kq : kb ∉ q.all
  ka : kb ∉ a.all
section
variable {w w' : World} {kb : Nat} {q : BkA} {a : DevA} {P : PlanR} {B : BkS} {m j c : Nat}
theorem RgIs.gr {bs : List Nat} (h : RgIs w kb q a P B m j c) (g : Gr bs w w') (hk : kb ∉ bs) (hn : ∀ b ∈ q.all, b ∉ bs) : RgIs w' kb q a P B m j c := ⟨h.head.gr g hk, h.bk.gr g hn, h.ok, h.kq, h.ka⟩
theorem RgIs.gr0 (h : RgIs w kb q a P B m j c) (g : Gr [] w w') : RgIs w' kb q a P B m j c := h.gr g (by simp) (by simp)
theorem RgIs.moreN (h : RgIs w kb q a P B m j c) {m' : Nat} (hm : m ≤ m') : RgIs w kb q a P B m' j c := ⟨h.head, h.bk.moreN _ hm, h.ok, h.kq, h.ka⟩
/-- The bank has moved. -/
theorem RgIs.bank {B' : BkS} {m' : Nat} (h : RgIs w kb q a P B m j c) (g : Gr (q.all ++ a.all) w w') (k : BkIs w' q a (bankR P) B' m') : RgIs w' kb q a P B' m' j c :=
  ⟨h.head.gr g (by simp only [List.mem_append, not_or]; exact ⟨h.kq, h.ka⟩), k, h.ok, h.kq, h.ka⟩
theorem RgIs.c0 (h : RgIs w kb q a P B m j c) : w.cell? ⟨kb, 0, none⟩ = some (.int .i64 P.a) := h.head.cell 0
theorem RgIs.c1 (h : RgIs w kb q a P B m j c) : w.cell? ⟨kb, 1, none⟩ = some (.int .i64 (P.l : Int)) := h.head.cell 1
theorem RgIs.c2 (h : RgIs w kb q a P B m j c) : w.cell? ⟨kb, 2, none⟩ = some (.int .i64 P.s) := h.head.cell 2
theorem RgIs.c3 (h : RgIs w kb q a P B m j c) : w.cell? ⟨kb, 3, none⟩ = some (.int .i64 P.psi) := h.head.cell 3
theorem RgIs.c4 (h : RgIs w kb q a P B m j c) : w.cell? ⟨kb, 4, none⟩ = some (.pointer (some ⟨q.b, 0, none⟩)) := h.head.cell 4
theorem RgIs.c5 (h : RgIs w kb q a P B m j c) : w.cell? ⟨kb, 5, none⟩ = some (.int .i64 (sAt P.l j)) := h.head.cell 5
theorem RgIs.c6 (h : RgIs w kb q a P B m j c) : w.cell? ⟨kb, 6, none⟩ = some (.int .i64 (gAt P.l j)) := h.head.cell 6
theorem RgIs.c7 (h : RgIs w kb q a P B m j c) : w.cell? ⟨kb, 7, none⟩ = some (.int .u32 (j : Int)) := h.head.cell 7
theorem RgIs.c8 (h : RgIs w kb q a P B m j c) : w.cell? ⟨kb, 8, none⟩ = some (.int .i64 (c : Int)) := h.head.cell 8
theorem bankf_any (hP : OkR P) (w : World) : Calls Tryz.prog 51 #[planRV P] w fun e w' => e = .returned (planV (bankR P)) ∧ Gr [] w w' := by
  have hl := hP.l2
  have HG := Lib.hid (((Gr.refl [] w).alloc (Obj.cells #[.int .i64 P.a, .int .i64 (P.l : Int), .int .i64 P.s, .int .i64 P.psi] 114)).alloc (Obj.cells #[.int .i64 0, .int .i64 0, .int .i64 0] 117))
  obtain ⟨x, hx⟩ : ∃ x : Int, (P.l : Int) + 2 = x := ⟨_, rfl⟩
  have a1 : IntKind.i64.wrap x = x := IntWalk.i64_in _ (by omega)
  unfold planRV planV bankR
  rw [hx]
  clear hP hl
  go_enter Tryz.func51, Tryz.ntmps51
  go_wp2_with fail
  exact bodyPost_ret (v := .agg #[.int .i64 P.a, .int .i64 x, .int .i64 P.s]) (by simp [results, Tryz.results51, go_sem]) rfl ⟨rfl, ((Gr.refl [] w).alloc _).alloc _⟩
theorem reg_any (hP : OkR P) (w : World) : Calls Tryz.prog 116 #[planRV P] w fun e w' => e = .returned (.int .i64 ((P.l : Int) + 1)) ∧ Gr [] w w' := by
  have hl := hP.l2
  have HG := Lib.hid ((Gr.refl [] w).alloc (Obj.cells #[.int .i64 P.a, .int .i64 (P.l : Int), .int .i64 P.s, .int .i64 P.psi] 114))
  obtain ⟨x, hx⟩ : ∃ x : Int, (P.l : Int) + 1 = x := ⟨_, rfl⟩
  have a1 : IntKind.i64.wrap x = x := IntWalk.i64_in _ (by omega)
  unfold planRV
  rw [hx]
  clear hP hl
  go_enter Tryz.func116, Tryz.ntmps116
  go_wp2_with fail
  go_ret
  exact ⟨rfl, HG.out⟩
theorem rfind_in (i : Nat) (h : RgIs w kb q a P B m j c) (hi : i < P.l) : Calls Tryz.prog 73 #[.pointer (some ⟨kb, 0, none⟩), .int .i64 (i : Int)] w fun e w' => e = .returned (.int .i64 0) ∧ w' = w := by
  have c1 := h.c1
  have ik : ¬ ((i : Int) < 0) := by omega
  have ik2 : ¬ ((P.l : Int) ≤ (i : Int)) := by omega
  clear h
  go_enter Tryz.func73, Tryz.ntmps73
  go_wp2_with fail
  go_ret
  exact ⟨rfl, rfl⟩
theorem rstate_any (h : RgIs w kb q a P B m j c) : Calls Tryz.prog 175 #[.pointer (some ⟨kb, 0, none⟩)] w fun e w' => e = .returned (stJ P j) ∧ Gr [] w w' := by
  have HG := Lib.hid ((Gr.refl [] w).alloc (Obj.cells #[.int .i64 0, .int .i64 0, .int .u32 0] 142))
  have c5 := (HG.out.cell0 h.head.lt).trans h.c5
  have c6 := (HG.out.cell0 h.head.lt).trans h.c6
  have c7 := (HG.out.cell0 h.head.lt).trans h.c7
  unfold stJ
  clear h
  go_enter Tryz.func175, Tryz.ntmps175
  go_wp2_with fail
  exact bodyPost_ret (v := .agg #[.int .i64 (sAt P.l j), .int .i64 (gAt P.l j), .int .u32 (j : Int)]) (by simp [results, Tryz.results175, go_sem]) rfl ⟨rfl, by first | exact (Gr.refl [] w).alloc _ | exact ((((Gr.refl [] w).alloc _).setCell (p := ⟨w.heap.size, 0, none⟩) (.inr (Nat.le_refl _)) _).setCell (p := ⟨w.heap.size, 1, none⟩) (.inr (Nat.le_refl _)) _).setCell (p := ⟨w.heap.size, 2, none⟩) (.inr (Nat.le_refl _)) _⟩
def slotJ (P : PlanR) (j i : Nat) : Int := slotI (sAt P.l j) (gAt P.l j) (P.l : Int) (i : Int)
theorem rslot_any (i : Nat) (h : RgIs w kb q a P B m j c) (hi : i < P.l) : Calls Tryz.prog 75 #[.pointer (some ⟨kb, 0, none⟩), .int .i64 (i : Int)] w fun e w' => e = .returned (.int .i64 (slotJ P j i)) ∧ Gr [] w w' := by
  have c1 := h.c1
  have c5 := h.c5
  have c6 := h.c6
  have c7 := h.c7
  have HS := Lib.hid (fun W => slot_yes (sAt P.l j) (gAt P.l j) (j : Int) (P.l : Int) (i : Int) W (at_right P.l j h.ok.l1 h.ok.l2) (by omega) (by omega))
  obtain ⟨z, hz⟩ : ∃ z, z = slotJ P j i := ⟨_, rfl⟩
  rw [show slotI (sAt P.l j) (gAt P.l j) (P.l : Int) (i : Int) = z from hz.symm] at HS
  rw [← hz]
  clear h hz
  generalize sAt P.l j = sj at *
  generalize gAt P.l j = gj at *
  have k1 := kp_cell (a := ⟨kb, 1, none⟩) c1
  have k5 := kp_cell (a := ⟨kb, 5, none⟩) c5
  have k6 := kp_cell (a := ⟨kb, 6, none⟩) c6
  have k7 := kp_cell (a := ⟨kb, 7, none⟩) c7
  have hne := kp_ne w
  clear c1 c5 c6 c7
  go_enter Tryz.func75, Tryz.ntmps75
  go_wp2_with fail
  refine wp_region_kp (by kernel_rfl) (by kernel_rfl) ?_
  repeat (go_big_quiet_step ((rename_i x; exact kp_call x (HS.out _))))
  with_reducible refine wpQuiet_nil ?_
  rintro _ ⟨y, rfl⟩
  have HG := Lib.hid (Gr.ofBelow (cs := []) y.h)
  clear k1 k5 k6 k7 hne
  generalize y.w = w2 at *
  go_wp2_with fail
  go_ret
  exact ⟨rfl, HG.out⟩
end
end Go.Proofs.YtifekejcbhllpaaGreat
