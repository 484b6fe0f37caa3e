/-
  LineCosts.
-/
import Derived.Test.YtphaaebbofgdnaaLnE
namespace Go.Proofs.Ytphaaebbofgdnaa
open Go.RowKit

theorem put_cost {D : DevS} (h : Calm D) (z : Int) (s : ByteArray) (hs : s.size = 64) : ∃ E, Calm E ∧ E.n = D.n ∧ ((putE D z s = (0, E) ∧ E.cnt = D.cnt + 10) ∨ (putE D z s = (3, E) ∧ E.cnt = D.cnt)) := by
  cases hl : isLine D z with
  | true =>
    have hz : 0 ≤ z ∧ z < D.n := by unfold isLine at hl; exact of_decide_eq_true hl
    obtain ⟨l, rfl⟩ := Int.eq_ofNat_of_zero_le hz.1
    obtain ⟨E, e1, e2⟩ := put_calm h (show l < D.n by omega) hs
    exact ⟨E, e2.calm, e2.n, .inl ⟨e1, by rw [e2.cnt]⟩⟩
  | false => exact ⟨D, h, rfl, .inr ⟨by unfold putE; rw [if_neg (by simp [hs]), hl]; rfl, rfl⟩⟩
theorem pw_cost {D : DevS} (h : Calm D) (z k : Int) (v : Nat) : ∃ E, Calm E ∧ E.n = D.n ∧ ((pwE D z k v = (0, E) ∧ E.cnt = D.cnt + 3) ∨ (pwE D z k v = (2, E) ∧ E.cnt = D.cnt) ∨ (pwE D z k v = (3, E) ∧ E.cnt = D.cnt)) := by
  by_cases hk : k < 0 ∨ 7 < k
  · exact ⟨D, h, rfl, .inr (.inl ⟨by unfold pwE; rw [if_pos hk], rfl⟩)⟩
  · cases hl : isLine D z with
    | true =>
      have hz : 0 ≤ z ∧ z < D.n := by unfold isLine at hl; exact of_decide_eq_true hl
      obtain ⟨l, rfl⟩ := Int.eq_ofNat_of_zero_le hz.1
      obtain ⟨q, rfl⟩ := Int.eq_ofNat_of_zero_le (show 0 ≤ k by omega)
      obtain ⟨E, e1, e2⟩ := putword_calm (v := v) h (show l < D.n by omega) (show q < 8 by omega)
      exact ⟨E, e2.calm, e2.n, .inl ⟨e1, by rw [e2.cnt]⟩⟩
    | false => exact ⟨D, h, rfl, .inr (.inr ⟨by unfold pwE; rw [if_neg hk, hl]; rfl, rfl⟩)⟩
theorem get_some (a : DevA) (D : DevS) (z : Int) (w : World) (h : DevIs w a D) :
    Calls Try.prog 36 #[.pointer (some ⟨a.bd, 0, none⟩), .int .i64 z] w fun e w' => ∃ x y, e = .returned (.tuple #[x, y]) ∧ Gr [] w w' := by
  by_cases hr : reachE D (isLine D z) = 0
  · have ht := reach_there hr
    have hz : 0 ≤ z ∧ z < D.n := by have := ht.1; unfold isLine at this; exact of_decide_eq_true this
    obtain ⟨l, rfl⟩ := Int.eq_ofNat_of_zero_le hz.1
    exact (get_yes a D l w h (by omega) ht.2).mono fun e w' q => ⟨_, _, q.1, q.2⟩
  · exact (get_err a D z w h hr).mono fun e w' q => ⟨_, _, q.1, by rw [← q.2]; exact Gr.refl _ _⟩

/-- The device behind i rounds; the law's two places. -/
structure Cst (w wr : World) (a : DevA) (bs : Nat) (z y : Int) (D : DevS) (c : Nat) : Prop where
  dev : DevIs wr a D
  calm : Calm D
  n : D.n = 2
  bd : Bd D c
  row : Holds wr bs #[.int .i64 z, .int .i64 y] 3
  gr : Gr [] w wr
  nb : bs ∉ a.all
  la : ∀ b ∈ a.all, w.heap.size ≤ b
theorem Cst.call {w wr w' : World} {a : DevA} {bs : Nat} {z y : Int} {D E : DevS} {c c' : Nat} (h : Cst w wr a bs z y D c) (d : DevIs w' a E) (hc : Calm E) (hn : E.n = D.n) (hb : Bd E c') (g : Gr a.all wr w') : Cst w w' a bs z y E c' :=
  ⟨d, hc, hn.trans h.n, hb, h.row.gr g h.nb, h.gr.nextN g (fun x hx => .inr (h.la x hx)), h.nb, h.la⟩
theorem Cst.gr0 {w wr w' : World} {a : DevA} {bs : Nat} {z y : Int} {D : DevS} {c : Nat} (h : Cst w wr a bs z y D c) (g : Gr [] wr w') : Cst w w' a bs z y D c :=
  ⟨h.dev.gr0 g, h.calm, h.n, h.bd, h.row.gr0 g, h.gr.trans g, h.nb, h.la⟩

set_option maxRecDepth 100000 in
set_option maxHeartbeats 8000000 in
theorem costs_law (z k : Int) (s : ByteArray) (w : World) (hz : -9223372036854775808 ≤ z ∧ z ≤ 9223372036854775807) (hk : -9223372036854775808 ≤ k ∧ k ≤ 9223372036854775807) (hs2 : s.size ≤ 4611686018427387904) :
    Calls Try.prog 11 #[.int .i64 z, .int .i64 k, .string s] w fun e w' => e = .returned (.bool true) ∧ Gr [] w w' := by
  have HF := Lib.hid (fun W => full_any s W hs2)
  have hmx := max0 Try.prog
  obtain ⟨y, hy⟩ : ∃ y : Int, mx z % 2 = y := ⟨_, rfl⟩
  have hm0 := mx_nonneg z
  clear hs2
  go_enter Try.func11, Try.ntmps11
  go_wp2_with fail
  refine (pmnew_yes 2 _ (by omega) (by omega)).mono ?_
  rintro e w1 ⟨a, rfl, d1, hlo, g1⟩
  have HLO := Lib.hid hlo
  clear hlo
  go_wp2_with fail
  refine (wakes04 _).mono ?_
  rintro e w2 ⟨rfl, q2⟩
  have d2 := d1.gr0 q2
  have g2 := g1.trans q2
  have hcs : Cst w (w2.alloc (Obj.cells #[Value.int .i64 z, Value.int .i64 y] 3)) a w2.heap.size z y (newD 2) 0 :=
    ⟨d2.gr0 ((Gr.refl [] w2).alloc _), ⟨rfl, rfl, fun _ => rfl⟩, rfl, ⟨Nat.le_refl _, fun l => ⟨Int.le_refl _, Int.le_refl _⟩⟩, Holds.new _ _ _, g2.alloc _, (fun e => by have := d2.lt _ e; omega), HLO.out⟩
  clear d1 g1 q2 d2 g2
  go_wp2_with fail
  have HC := Lib.hid hcs
  clear hcs hmx hy hm0
  generalize w2.alloc (Obj.cells #[Value.int .i64 z, Value.int .i64 y] 3) = wa at *
  generalize w2.heap.size = bs at *
  go_loopw [36] (fun u wr => ∃ (i c : Nat) (D : DevS), i ≤ 2 ∧ c ≤ 20 * i ∧ u = .int .i64 (i : Int) ∧ Cst w wr a bs z y D c) (fun u _ => 2 - (intOf u).toNat)
  case atStart => exact ⟨0, 0, newD 2, by omega, by omega, rfl, HC.out⟩
  case round =>
    clear HC
    obtain ⟨i, c, D, hi, hc, rfl, C⟩ := hrel
    by_cases hlt : i < 2
    · have hd : decide ((i : Int) < 2) = true := by simp; omega
      obtain ⟨x, hx⟩ : ∃ x, wr.cell? ⟨bs, i, none⟩ = some (.int .i64 x) := by
        rcases (show i = 0 ∨ i = 1 by omega) with rfl | rfl
        · exact ⟨z, C.row.cell 0⟩
        · exact ⟨y, C.row.cell 1⟩
      have hi0 : (0 : Int) ≤ (i : Int) := by omega
      have hib : (i : Int) < 2 := by omega
      obtain ⟨E1, cl1, n1, hp⟩ := put_cost C.calm x (fullS s) (fullS_size s)
      obtain ⟨E2, cl2, n2, hq⟩ := pw_cost cl1 x k 5
      obtain ⟨M, hM⟩ : ∃ M, D.cnt = M := ⟨_, rfl⟩
      obtain ⟨N, hN⟩ : ∃ N, E1.cnt = N := ⟨_, rfl⟩
      obtain ⟨P, hP⟩ : ∃ P, E2.cnt = P := ⟨_, rfl⟩
      have hM3 : M ≤ 100 := by rw [← hM]; have := C.bd.1; omega
      have HC1 := Lib.hid (show ∀ W, DevIs W a D → Calls Try.prog 26 #[.pointer (some ⟨a.bd, 0, none⟩)] W fun e w' => e = .returned (.int .i64 (M : Int)) ∧ W = w' from fun W d => by rw [← hM]; exact count_any a D W d)
      have HC2 := Lib.hid (show ∀ W, DevIs W a E1 → Calls Try.prog 26 #[.pointer (some ⟨a.bd, 0, none⟩)] W fun e w' => e = .returned (.int .i64 (N : Int)) ∧ W = w' from fun W d => by rw [← hN]; exact count_any a E1 W d)
      have HC3 := Lib.hid (show ∀ W, DevIs W a E2 → Calls Try.prog 26 #[.pointer (some ⟨a.bd, 0, none⟩)] W fun e w' => e = .returned (.int .i64 (P : Int)) ∧ W = w' from fun W d => by rw [← hP]; exact count_any a E2 W d)
      have HPT := Lib.hid (fun W (d : DevIs W a D) => lput_any a D x (fullS s) c W d C.bd (by omega) (full_max s))
      have HPW := Lib.hid (fun W (d : DevIs W a E1) (b : Bd E1 (c + 10)) => putword_any a E1 x k 5 (c + 10) W d b (by omega) (by omega))
      have HGT := Lib.hid (fun W (d : DevIs W a E2) => get_some a E2 x W d)
      have HCC := Lib.hid C
      have HE := Lib.hid (And.intro cl1 (And.intro n1 (And.intro cl2 n2)))
      have hx1 := hx
      clear C cl1 n1 cl2 n2 hx
      rw [hM, hN] at hp
      rw [hN, hP] at hq
      clear hM hN hP
      rcases hp with ⟨hp, hN⟩ | ⟨hp, rfl⟩
      · rw [hp] at HPT
        clear hp
        have t1 : ((N : Int) == (M : Int) + 10) = true := by simp; omega
        have t2 : ((N : Int) != (M : Int) + 10) = false := by simp; omega
        have hN3 : N ≤ 110 := by omega
        clear hN
        rcases hq with ⟨hq, hP⟩ | ⟨hq, rfl⟩ | ⟨hq, rfl⟩
        · rw [hq] at HPW
          clear hq
          have t3 : ((P : Int) == (N : Int) + 3) = true := by simp; omega
          have t4 : ((P : Int) != (N : Int) + 3) = false := by simp; omega
          clear hP
          go_wp2_with fail
          refine (HC1.out _ HCC.out.dev).mono ?_
          rintro e w' ⟨rfl, rfl⟩
          go_wp2_with fail
          refine (HF.out _).mono ?_
          rintro e w3 ⟨rfl, q3⟩
          have HC3b := Lib.hid (HCC.out.gr0 q3)
          clear q3
          go_wp2_with fail
          refine (HPT.out _ HC3b.out.dev).mono ?_
          rintro e w4 ⟨rfl, d4, b4, q4⟩
          have HC4 := Lib.hid (HC3b.out.call d4 HE.out.1 HE.out.2.1 b4 q4)
          clear d4 b4 q4
          go_wp2_with fail
          refine (HC2.out _ HC4.out.dev).mono ?_
          rintro e w' ⟨rfl, rfl⟩
          go_wp2_with fail
          refine (HPW.out _ HC4.out.dev HC4.out.bd).mono ?_
          rintro e w5 ⟨rfl, d5, b5, q5⟩
          have HC5 := Lib.hid (HC4.out.call d5 HE.out.2.2.1 HE.out.2.2.2 b5 q5)
          clear d5 b5 q5
          go_wp2_with fail
          refine (HC3.out _ HC5.out.dev).mono ?_
          rintro e w' ⟨rfl, rfl⟩
          go_wp2_with fail
          refine (HGT.out _ HC5.out.dev).mono ?_
          rintro e w6 ⟨g1, g2, rfl, q6⟩
          have HC6 := Lib.hid (HC5.out.gr0 q6)
          clear q6
          go_wp2_with fail
          refine (HC3.out _ HC6.out.dev).mono ?_
          rintro e w' ⟨rfl, rfl⟩
          go_wp2_with fail
          go_roundw
          case rel => exact ⟨i + 1, c + 10 + 10, _, by omega, by omega, by go_num, HC6.out⟩
          case measure => simp [intOf]; omega
        all_goals
          rw [hq] at HPW
          clear hq
          go_wp2_with fail
          refine (HC1.out _ HCC.out.dev).mono ?_
          rintro e w' ⟨rfl, rfl⟩
          go_wp2_with fail
          refine (HF.out _).mono ?_
          rintro e w3 ⟨rfl, q3⟩
          have HC3b := Lib.hid (HCC.out.gr0 q3)
          clear q3
          go_wp2_with fail
          refine (HPT.out _ HC3b.out.dev).mono ?_
          rintro e w4 ⟨rfl, d4, b4, q4⟩
          have HC4 := Lib.hid (HC3b.out.call d4 HE.out.1 HE.out.2.1 b4 q4)
          clear d4 b4 q4
          go_wp2_with fail
          refine (HC2.out _ HC4.out.dev).mono ?_
          rintro e w' ⟨rfl, rfl⟩
          go_wp2_with fail
          refine (HPW.out _ HC4.out.dev HC4.out.bd).mono ?_
          rintro e w5 ⟨rfl, d5, b5, q5⟩
          have HC5 := Lib.hid (HC4.out.call d5 HE.out.2.2.1 HE.out.2.2.2 b5 q5)
          clear d5 b5 q5
          go_wp2_with fail
          refine (HC3.out _ HC5.out.dev).mono ?_
          rintro e w' ⟨rfl, rfl⟩
          go_wp2_with fail
          refine (HGT.out _ HC5.out.dev).mono ?_
          rintro e w6 ⟨g1, g2, rfl, q6⟩
          have HC6 := Lib.hid (HC5.out.gr0 q6)
          clear q6
          go_wp2_with fail
          refine (HC3.out _ HC6.out.dev).mono ?_
          rintro e w' ⟨rfl, rfl⟩
          go_wp2_with fail
          go_roundw
          case rel => exact ⟨i + 1, c + 10 + 10, _, by omega, by omega, by go_num, HC6.out⟩
          case measure => simp [intOf]; omega
      · rw [hp] at HPT
        clear hp
        rcases hq with ⟨hq, hP⟩ | ⟨hq, rfl⟩ | ⟨hq, rfl⟩
        · rw [hq] at HPW
          clear hq
          have t3 : ((P : Int) == (N : Int) + 3) = true := by simp; omega
          have t4 : ((P : Int) != (N : Int) + 3) = false := by simp; omega
          clear hP
          go_wp2_with fail
          refine (HC1.out _ HCC.out.dev).mono ?_
          rintro e w' ⟨rfl, rfl⟩
          go_wp2_with fail
          refine (HF.out _).mono ?_
          rintro e w3 ⟨rfl, q3⟩
          have HC3b := Lib.hid (HCC.out.gr0 q3)
          clear q3
          go_wp2_with fail
          refine (HPT.out _ HC3b.out.dev).mono ?_
          rintro e w4 ⟨rfl, d4, b4, q4⟩
          have HC4 := Lib.hid (HC3b.out.call d4 HE.out.1 HE.out.2.1 b4 q4)
          clear d4 b4 q4
          go_wp2_with fail
          refine (HC2.out _ HC4.out.dev).mono ?_
          rintro e w' ⟨rfl, rfl⟩
          go_wp2_with fail
          refine (HPW.out _ HC4.out.dev HC4.out.bd).mono ?_
          rintro e w5 ⟨rfl, d5, b5, q5⟩
          have HC5 := Lib.hid (HC4.out.call d5 HE.out.2.2.1 HE.out.2.2.2 b5 q5)
          clear d5 b5 q5
          go_wp2_with fail
          refine (HC3.out _ HC5.out.dev).mono ?_
          rintro e w' ⟨rfl, rfl⟩
          go_wp2_with fail
          refine (HGT.out _ HC5.out.dev).mono ?_
          rintro e w6 ⟨g1, g2, rfl, q6⟩
          have HC6 := Lib.hid (HC5.out.gr0 q6)
          clear q6
          go_wp2_with fail
          refine (HC3.out _ HC6.out.dev).mono ?_
          rintro e w' ⟨rfl, rfl⟩
          go_wp2_with fail
          go_roundw
          case rel => exact ⟨i + 1, c + 10 + 10, _, by omega, by omega, by go_num, HC6.out⟩
          case measure => simp [intOf]; omega
        all_goals
          rw [hq] at HPW
          clear hq
          go_wp2_with fail
          refine (HC1.out _ HCC.out.dev).mono ?_
          rintro e w' ⟨rfl, rfl⟩
          go_wp2_with fail
          refine (HF.out _).mono ?_
          rintro e w3 ⟨rfl, q3⟩
          have HC3b := Lib.hid (HCC.out.gr0 q3)
          clear q3
          go_wp2_with fail
          refine (HPT.out _ HC3b.out.dev).mono ?_
          rintro e w4 ⟨rfl, d4, b4, q4⟩
          have HC4 := Lib.hid (HC3b.out.call d4 HE.out.1 HE.out.2.1 b4 q4)
          clear d4 b4 q4
          go_wp2_with fail
          refine (HC2.out _ HC4.out.dev).mono ?_
          rintro e w' ⟨rfl, rfl⟩
          go_wp2_with fail
          refine (HPW.out _ HC4.out.dev HC4.out.bd).mono ?_
          rintro e w5 ⟨rfl, d5, b5, q5⟩
          have HC5 := Lib.hid (HC4.out.call d5 HE.out.2.2.1 HE.out.2.2.2 b5 q5)
          clear d5 b5 q5
          go_wp2_with fail
          refine (HC3.out _ HC5.out.dev).mono ?_
          rintro e w' ⟨rfl, rfl⟩
          go_wp2_with fail
          refine (HGT.out _ HC5.out.dev).mono ?_
          rintro e w6 ⟨g1, g2, rfl, q6⟩
          have HC6 := Lib.hid (HC5.out.gr0 q6)
          clear q6
          go_wp2_with fail
          refine (HC3.out _ HC6.out.dev).mono ?_
          rintro e w' ⟨rfl, rfl⟩
          go_wp2_with fail
          go_roundw
          case rel => exact ⟨i + 1, c + 10 + 10, _, by omega, by omega, by go_num, HC6.out⟩
          case measure => simp [intOf]; omega
    · obtain rfl : i = 2 := by omega
      have HG := Lib.hid C.gr
      clear C
      rw [show ((2 : Nat) : Int) = 2 from rfl]
      go_wp2_with fail
      go_ret
      exact ⟨rfl, HG.out⟩
theorem walk_LineCosts (a0 a1 : Int) (a2 : ByteArray) (w0 : (Lit.int .i64 a0).wf = true) (w1 : (Lit.int .i64 a1).wf = true) (_ : a2.size ≤ maxLen) (x2 : a2.size ≤ reachBytes) (w : World) :
    Calls Try.prog 11 #[.int .i64 a0, .int .i64 a1, .string a2] w fun e w' => e = .returned (.bool true) ∧ Below w.heap.size w w' :=
  (costs_law a0 a1 a2 w (bounds_i64 w0) (bounds_i64 w1) (Nat.le_trans x2 (by decide))).mono fun _ _ q => ⟨q.1, q.2.below0⟩

end Go.Proofs.Ytphaaebbofgdnaa
