/-
  Layer 24: the document's of.
-/
import Derived.Test.YtlafmdpcabgcdaaLkJ
import Derived.Deep.AppendLies
import Derived.Deep.QuietTactic
import Derived.BigQuiet
import Derived.Shelf.RegionOpenPlain
namespace Go.Proofs.Ytlafmdpcabgcdaa
open Go.RowKit

theorem gr_grownL {w w' : World} {row : Option Nat} (h : w.grownBy w' row) : Gr row.toList w w' := ⟨h.os, h.tape, h.output, h.size, fun i hi hn => h.block i hi (fun e => hn (by rw [← e]; simp))⟩
theorem runU_t {y x : Int} {r : List Int} : runU true (y :: r) x = (if y = x then [] else [y]) ++ runU true r x := by
  by_cases h : y = x <;> simp [runU, h]
theorem runU_g {y x : Int} {r : List Int} (h : x ≤ y) : runU false (y :: r) x = [x] ++ ((if y = x then [] else [y]) ++ runU true r x) := by
  by_cases h2 : y = x <;> simp [runU, h, h2]
theorem runU_l {y x : Int} {r : List Int} (h : ¬ x ≤ y) : runU false (y :: r) x = [y] ++ runU false r x := by
  have h2 : y ≠ x := by omega
  simp [runU, h, h2]
theorem zv_snoc (l : List Int) (x : Int) : zv (l ++ [x]) = zv l ++ [.int .i64 x] := by simp [zv]

set_option maxRecDepth 100000 in
set_option maxHeartbeats 8000000 in
theorem of_at (ao : Option Addr) (l : List (Int × Int)) (capL : Nat) (c : Int) (w : World) (hl : RdP w ao l) (hlen : l.length ≤ 1000) (hcap : l.length ≤ capL) :
    Calls Try.prog 30 #[.slice ao l.length capL, .int .i64 c] w fun e w' => ∃ v, e = .returned v ∧ w'.ownsRow w.heap.size 3 1 v (ofP l c).length (zv (ofP l c)) ∧ Gr [] w w' := by
  have mixed : Try.prog.follows .mixedOrders = true := by kernel_rfl
  obtain ⟨i0, hi, hz0, hz1, hz2⟩ := info_parts infoInt8
  have HR := Lib.hid hl
  obtain ⟨N, hN⟩ : ∃ N, N = l.length := ⟨_, rfl⟩
  rw [← hN] at hlen hcap ⊢
  have HN := Lib.hid hN
  clear hl hN
  go_enter Try.func30, Try.ntmps30
  go_wp2
  go_loopw [5, 6] (fun v i wr => ∃ k : Nat, k ≤ N ∧ i = .int .i64 k ∧ wr.ownsRow w.heap.size 3 1 v (ofP (l.take k) c).length (zv (ofP (l.take k) c)) ∧ Gr [] w wr) (fun _ i _ => N - (intOf i).toNat)
  case atStart => exact ⟨0, by omega, rfl, World.ownsRow_nil _ _ _ _, Gr.refl _ _⟩
  case round =>
    obtain ⟨k, hk, rfl, ho, g⟩ := hrel
    have HO := Lib.hid (And.intro ho g)
    by_cases hlt : k < N
    · have ik : (k : Int) < (N : Int) := by omega
      obtain ⟨e, he⟩ : ∃ e, l[k]? = some e := ⟨_, List.getElem?_eq_getElem (by have := HN.out; omega)⟩
      have HE := Lib.hid (show ofP (l.take (k + 1)) c = if e.1 = c then runU false (ofP (l.take k) c) e.2 else ofP (l.take k) c by
        obtain ⟨h1, h2⟩ := List.getElem?_eq_some_iff.1 he
        rw [List.take_succ_eq_append_getElem h1, h2, ofP_snoc])
      obtain ⟨b1, o1, rfl, hb1, z1, z2⟩ := HR.out k e he
      have c1 : wr.cell? ⟨b1, o1 + k * 2, none⟩ = some (.int .i64 e.1) := (g.cell0 hb1).trans z1
      have c2 : wr.cell? ⟨b1, o1 + k * 2 + 1, none⟩ = some (.int .i64 e.2) := (g.cell0 hb1).trans z2
      have hlk : (ofP (l.take k) c).length ≤ k := by
        have := ofP_len (l.take k) c
        rw [List.length_take] at this
        omega
      obtain ⟨O, hO⟩ : ∃ O, O = ofP (l.take k) c := ⟨_, rfl⟩
      rw [← hO] at HE HO ho hlk
      clear he z1 z2 g hO
      obtain ⟨ao2, cap2, rfl, hrd, hno⟩ := own_rd ho
      clear ho
      by_cases hec : e.1 = c
      · have f1 : (e.1 != c) = false := by simp [hec]
        have f2 : (e.1 == c) = true := by simp [hec]

        rw [if_pos hec] at HE
        clear hec
        obtain ⟨W0, rfl⟩ : ∃ W0, W0 = wr := ⟨_, rfl⟩
        have HRD := Lib.hid hrd
        have HB1 := Lib.hid (show b1 < W0.heap.size by have := HO.out.2.size; omega)
        clear hrd
        go_wp2
        go_loopw [7, 8, 9] (fun n d j wi => ∃ (q : Nat) (P : List Int) (dn : Bool), q ≤ O.length ∧ j = .int .i64 q ∧ d = .bool dn ∧ P.length ≤ q + (if dn then 1 else 0) ∧ runU false O e.2 = P ++ runU dn (O.drop q) e.2 ∧ wi.ownsRow W0.heap.size 3 1 n P.length (zv P) ∧ Gr [] W0 wi) (fun _ _ j _ => O.length - (intOf j).toNat)
        case atStart => exact ⟨0, [], false, by omega, rfl, rfl, by simp, by simp, World.ownsRow_nil _ _ _ _, Gr.refl _ _⟩
        case round =>
          obtain ⟨q, P, dn, hq, rfl, rfl, hpl, hrun, hown, gi⟩ := hrel
          have HO2 := Lib.hid (And.intro hown gi)
          have hpl' : P.length ≤ q + 1 := by revert hpl; cases dn <;> simp <;> omega
          have HPL := Lib.hid hpl
          clear hpl
          have HRUN := Lib.hid hrun
          have c4 : wr.cell? ⟨b1, o1 + k * 2 + 1, none⟩ = some (.int .i64 e.2) := (gi.cell0 HB1.out).trans c2
          clear hrun hown
          by_cases hql : q < O.length
          · have iq : (q : Int) < (O.length : Int) := by omega
            obtain ⟨y, hy⟩ : ∃ y, O[q]? = some y := ⟨_, List.getElem?_eq_getElem hql⟩
            have HD := Lib.hid (show O.drop q = y :: O.drop (q + 1) by
              obtain ⟨h1, h2⟩ := List.getElem?_eq_some_iff.1 hy
              rw [List.drop_eq_getElem_cons h1, h2])
            obtain ⟨b2, o2, rfl, hb2, z3⟩ := HRD.out q y hy
            have HB2 := Lib.hid (And.intro hb2 z3)
            have c3 : wr.cell? ⟨b2, o2 + q, none⟩ = some (.int .i64 y) := (gi.cell0 hb2).trans z3
            clear hy hb2 z3 gi
            cases dn with
            | true =>
              by_cases hy2 : y = e.2
              · have HC := Lib.hid hy2
                have g1 : (y != e.2) = false := by simp [hy2]
                have g2 : (y == e.2) = true := by simp [hy2]
                clear hy2
                go_wp2_with fail
                go_quiet (fail)
                have HQ1 := Lib.hid (And.intro (show (wr.drewN nq).ownsRow W0.heap.size 3 1 _ P.length (zv P) from HO2.out.1) (HO2.out.2.drewN nq))
                have c3_q1 : (wr.drewN nq).cell? ⟨b2, o2 + q, none⟩ = some (.int .i64 y) := c3
                have c4_q1 : (wr.drewN nq).cell? ⟨b1, o1 + k * 2 + 1, none⟩ = some (.int .i64 e.2) := c4
                clear c3 c4 HO2
                generalize wr.drewN nq = x1 at *
                go_wp2_with fail
                go_quiet (fail)
                have HQ2 := Lib.hid (And.intro (show (x1.drewN nq).ownsRow W0.heap.size 3 1 _ P.length (zv P) from HQ1.out.1) (HQ1.out.2.drewN nq))
                have c3_q2 : (x1.drewN nq).cell? ⟨b2, o2 + q, none⟩ = some (.int .i64 y) := c3_q1
                have c4_q2 : (x1.drewN nq).cell? ⟨b1, o1 + k * 2 + 1, none⟩ = some (.int .i64 e.2) := c4_q1
                clear c3_q1 c4_q1 HQ1
                generalize x1.drewN nq = x2 at *
                go_wp2_with fail
                go_roundw
                case rel => exact ⟨q + 1, P, true, by omega, by go_num, rfl, by (have := HPL.out; simp at this; first | omega | (simp; omega)), by rw [HRUN.out, HD.out, runU_t, if_pos HC.out]; simp, HQ2.out.1, HQ2.out.2⟩
                case measure => simp [intOf]; omega
              · have HC := Lib.hid hy2
                have g1 : (y != e.2) = true := by simpa using hy2
                have g2 : (y == e.2) = false := by simpa using hy2
                clear hy2
                go_wp2_with fail
                go_quiet (fail)
                have HQ1 := Lib.hid (And.intro (show (wr.drewN nq).ownsRow W0.heap.size 3 1 _ P.length (zv P) from HO2.out.1) (HO2.out.2.drewN nq))
                have c3_q1 : (wr.drewN nq).cell? ⟨b2, o2 + q, none⟩ = some (.int .i64 y) := c3
                have c4_q1 : (wr.drewN nq).cell? ⟨b1, o1 + k * 2 + 1, none⟩ = some (.int .i64 e.2) := c4
                clear c3 c4 HO2
                generalize wr.drewN nq = x1 at *
                go_wp2_with fail
                go_quiet (fail)
                have HQ2 := Lib.hid (And.intro (show (x1.drewN nq).ownsRow W0.heap.size 3 1 _ P.length (zv P) from HQ1.out.1) (HQ1.out.2.drewN nq))
                have c3_q2 : (x1.drewN nq).cell? ⟨b2, o2 + q, none⟩ = some (.int .i64 y) := c3_q1
                have c4_q2 : (x1.drewN nq).cell? ⟨b1, o1 + k * 2 + 1, none⟩ = some (.int .i64 e.2) := c4_q1
                clear c3_q1 c4_q1 HQ1
                generalize x1.drewN nq = x2 at *
                have HA5 := Lib.hid (HQ2.out.1.alloc (Obj.cells #[.int .i64 y] 3))
                have HN5 := Lib.hid (Holds.new x2 #[.int .i64 y] 3)
                have hz5 := HQ2.out.2.size
                have one5 : ∀ u ∈ [Value.int .i64 y], u.oneCell' = true := by simp [Value.oneCell']
                go_wp2_with (at_builtin; refine wpList_append_own _ rfl _ _ 32 rfl W0.heap.size 3 i0 _ 1 8 Try.underlying32 hi hz0 hz1 hz2 rfl (by decide) _ _ _ rfl HA5.out ⟨x2.heap.size, 0, none⟩ 1 1 [.int .i64 y] rfl rfl (World.news_of_block HN5.out) one5 (by unfold maxLen; omega) (by omega) (by rw [World.size_alloc]; omega) ?_)
                intro v5 w5 hown5 hgrow5 _
                have hlt5 := HA5.out.lt
                have HF5 := Lib.hid (And.intro (show w5.ownsRow W0.heap.size 3 1 v5 (P ++ [y]).length (zv (P ++ [y])) by rw [zv_snoc, List.length_append]; exact hown5) (((HQ2.out.2.alloc (Obj.cells #[.int .i64 y] 3)).nextN (gr_grownL hgrow5) (fun x hx => .inr (hlt5 x (by simpa using hx)).1))))
                clear hown5 hgrow5 hlt5 HA5 HN5 hz5
                go_wp2_with fail
                go_roundw
                case rel => exact ⟨q + 1, P ++ [y], true, by omega, by go_num, rfl, by (have := HPL.out; simp at this; first | omega | (simp; omega)), by rw [HRUN.out, HD.out, runU_t, if_neg HC.out]; simp, HF5.out.1, HF5.out.2⟩
                case measure => simp [intOf]; omega
            | false =>
              by_cases hge : e.2 ≤ y
              · have HG := Lib.hid hge
                go_wp2_with fail
                go_quiet (fail)
                have HQ1 := Lib.hid (And.intro (show (wr.drewN nq).ownsRow W0.heap.size 3 1 _ P.length (zv P) from HO2.out.1) (HO2.out.2.drewN nq))
                have c3_q1 : (wr.drewN nq).cell? ⟨b2, o2 + q, none⟩ = some (.int .i64 y) := c3
                have c4_q1 : (wr.drewN nq).cell? ⟨b1, o1 + k * 2 + 1, none⟩ = some (.int .i64 e.2) := c4
                clear c3 c4 HO2
                generalize wr.drewN nq = x1 at *
                have HA5 := Lib.hid (HQ1.out.1.alloc (Obj.cells #[.int .i64 e.2] 3))
                have HN5 := Lib.hid (Holds.new x1 #[.int .i64 e.2] 3)
                have hz5 := HQ1.out.2.size
                have one5 : ∀ u ∈ [Value.int .i64 e.2], u.oneCell' = true := by simp [Value.oneCell']
                go_wp2_with (at_builtin; refine wpList_append_own _ rfl _ _ 32 rfl W0.heap.size 3 i0 _ 1 8 Try.underlying32 hi hz0 hz1 hz2 rfl (by decide) _ _ _ rfl HA5.out ⟨x1.heap.size, 0, none⟩ 1 1 [.int .i64 e.2] rfl rfl (World.news_of_block HN5.out) one5 (by unfold maxLen; omega) (by omega) (by rw [World.size_alloc]; omega) ?_)
                intro v5 w5 hown5 hgrow5 _
                have hlt5 := HA5.out.lt
                have HF5 := Lib.hid (And.intro (show w5.ownsRow W0.heap.size 3 1 v5 (P ++ [e.2]).length (zv (P ++ [e.2])) by rw [zv_snoc, List.length_append]; exact hown5) (((HQ1.out.2.alloc (Obj.cells #[.int .i64 e.2] 3)).nextN (gr_grownL hgrow5) (fun x hx => .inr (hlt5 x (by simpa using hx)).1))))
                clear hown5 hgrow5 hlt5 HA5 HN5 hz5
                have c3_5 : w5.cell? ⟨b2, o2 + q, none⟩ = some (.int .i64 y) := (HF5.out.2.cell0 HB2.out.1).trans HB2.out.2
                have c4_5 : w5.cell? ⟨b1, o1 + k * 2 + 1, none⟩ = some (.int .i64 e.2) := (HF5.out.2.cell0 HB1.out).trans c2
                clear c3_q1 c4_q1
                by_cases hy2 : y = e.2
                · have HC := Lib.hid hy2
                  have g1 : (y != e.2) = false := by simp [hy2]
                  have g2 : (y == e.2) = true := by simp [hy2]
                  clear hy2
                  go_wp2_with fail
                  go_quiet (fail)
                  have HQ2 := Lib.hid (And.intro (show (w5.drewN nq).ownsRow W0.heap.size 3 1 _ (P ++ [e.2]).length (zv (P ++ [e.2])) from HF5.out.1) (HF5.out.2.drewN nq))
                  have c3_q2 : (w5.drewN nq).cell? ⟨b2, o2 + q, none⟩ = some (.int .i64 y) := c3_5
                  have c4_q2 : (w5.drewN nq).cell? ⟨b1, o1 + k * 2 + 1, none⟩ = some (.int .i64 e.2) := c4_5
                  clear c3_5 c4_5 HF5
                  generalize w5.drewN nq = x2 at *
                  go_wp2_with fail
                  go_roundw
                  case rel => exact ⟨q + 1, P ++ [e.2], true, by omega, by go_num, rfl, by (have := HPL.out; simp at this; first | omega | (simp; omega)), by rw [HRUN.out, HD.out, runU_g HG.out, if_pos HC.out]; simp, HQ2.out.1, HQ2.out.2⟩
                  case measure => simp [intOf]; omega
                · have HC := Lib.hid hy2
                  have g1 : (y != e.2) = true := by simpa using hy2
                  have g2 : (y == e.2) = false := by simpa using hy2
                  clear hy2
                  go_wp2_with fail
                  go_quiet (fail)
                  have HQ2 := Lib.hid (And.intro (show (w5.drewN nq).ownsRow W0.heap.size 3 1 _ (P ++ [e.2]).length (zv (P ++ [e.2])) from HF5.out.1) (HF5.out.2.drewN nq))
                  have c3_q2 : (w5.drewN nq).cell? ⟨b2, o2 + q, none⟩ = some (.int .i64 y) := c3_5
                  have c4_q2 : (w5.drewN nq).cell? ⟨b1, o1 + k * 2 + 1, none⟩ = some (.int .i64 e.2) := c4_5
                  clear c3_5 c4_5 HF5
                  generalize w5.drewN nq = x2 at *
                  have HA6 := Lib.hid (HQ2.out.1.alloc (Obj.cells #[.int .i64 y] 3))
                  have HN6 := Lib.hid (Holds.new x2 #[.int .i64 y] 3)
                  have hz6 := HQ2.out.2.size
                  have one6 : ∀ u ∈ [Value.int .i64 y], u.oneCell' = true := by simp [Value.oneCell']
                  go_wp2_with (at_builtin; refine wpList_append_own _ rfl _ _ 32 rfl W0.heap.size 3 i0 _ 1 8 Try.underlying32 hi hz0 hz1 hz2 rfl (by decide) _ _ _ rfl HA6.out ⟨x2.heap.size, 0, none⟩ 1 1 [.int .i64 y] rfl rfl (World.news_of_block HN6.out) one6 (by unfold maxLen; simp; omega) (by simp; omega) (by rw [World.size_alloc]; omega) ?_)
                  intro v6 w6 hown6 hgrow6 _
                  have hlt6 := HA6.out.lt
                  have HF6 := Lib.hid (And.intro (show w6.ownsRow W0.heap.size 3 1 v6 ((P ++ [e.2]) ++ [y]).length (zv ((P ++ [e.2]) ++ [y])) by rw [zv_snoc, List.length_append, List.length_append]; exact hown6) (((HQ2.out.2.alloc (Obj.cells #[.int .i64 y] 3)).nextN (gr_grownL hgrow6) (fun x hx => .inr (hlt6 x (by simpa using hx)).1))))
                  clear hown6 hgrow6 hlt6 HA6 HN6 hz6
                  go_wp2_with fail
                  go_roundw
                  case rel => exact ⟨q + 1, (P ++ [e.2]) ++ [y], true, by omega, by go_num, rfl, by (have := HPL.out; simp at this; first | omega | (simp; omega)), by rw [HRUN.out, HD.out, runU_g HG.out, if_neg HC.out]; simp, HF6.out.1, HF6.out.2⟩
                  case measure => simp [intOf]; omega
              · have HG := Lib.hid hge
                have hy2 : y ≠ e.2 := by omega
                have g1 : (y != e.2) = true := by simpa using hy2
                have g2 : (y == e.2) = false := by simpa using hy2
                clear hy2
                go_wp2_with fail
                go_quiet (fail)
                have HQ1 := Lib.hid (And.intro (show (wr.drewN nq).ownsRow W0.heap.size 3 1 _ P.length (zv P) from HO2.out.1) (HO2.out.2.drewN nq))
                have c3_q1 : (wr.drewN nq).cell? ⟨b2, o2 + q, none⟩ = some (.int .i64 y) := c3
                have c4_q1 : (wr.drewN nq).cell? ⟨b1, o1 + k * 2 + 1, none⟩ = some (.int .i64 e.2) := c4
                clear c3 c4 HO2
                generalize wr.drewN nq = x1 at *
                go_wp2_with fail
                go_quiet (fail)
                have HQ2 := Lib.hid (And.intro (show (x1.drewN nq).ownsRow W0.heap.size 3 1 _ P.length (zv P) from HQ1.out.1) (HQ1.out.2.drewN nq))
                have c3_q2 : (x1.drewN nq).cell? ⟨b2, o2 + q, none⟩ = some (.int .i64 y) := c3_q1
                have c4_q2 : (x1.drewN nq).cell? ⟨b1, o1 + k * 2 + 1, none⟩ = some (.int .i64 e.2) := c4_q1
                clear c3_q1 c4_q1 HQ1
                generalize x1.drewN nq = x2 at *
                have HA5 := Lib.hid (HQ2.out.1.alloc (Obj.cells #[.int .i64 y] 3))
                have HN5 := Lib.hid (Holds.new x2 #[.int .i64 y] 3)
                have hz5 := HQ2.out.2.size
                have one5 : ∀ u ∈ [Value.int .i64 y], u.oneCell' = true := by simp [Value.oneCell']
                go_wp2_with (at_builtin; refine wpList_append_own _ rfl _ _ 32 rfl W0.heap.size 3 i0 _ 1 8 Try.underlying32 hi hz0 hz1 hz2 rfl (by decide) _ _ _ rfl HA5.out ⟨x2.heap.size, 0, none⟩ 1 1 [.int .i64 y] rfl rfl (World.news_of_block HN5.out) one5 (by unfold maxLen; omega) (by omega) (by rw [World.size_alloc]; omega) ?_)
                intro v5 w5 hown5 hgrow5 _
                have hlt5 := HA5.out.lt
                have HF5 := Lib.hid (And.intro (show w5.ownsRow W0.heap.size 3 1 v5 (P ++ [y]).length (zv (P ++ [y])) by rw [zv_snoc, List.length_append]; exact hown5) (((HQ2.out.2.alloc (Obj.cells #[.int .i64 y] 3)).nextN (gr_grownL hgrow5) (fun x hx => .inr (hlt5 x (by simpa using hx)).1))))
                clear hown5 hgrow5 hlt5 HA5 HN5 hz5
                go_wp2_with fail
                go_roundw
                case rel => exact ⟨q + 1, P ++ [y], false, by omega, by go_num, rfl, by (have := HPL.out; simp at this; first | omega | (simp; omega)), by rw [HRUN.out, HD.out, runU_l (by have := HG.out; omega)]; simp, HF5.out.1, HF5.out.2⟩
                case measure => simp [intOf]; omega
          · have iq : ¬ ((q : Int) < (O.length : Int)) := by omega
            have HD := Lib.hid (show O.drop q = [] from List.drop_eq_nil_of_le (by omega))
            clear gi
            cases dn with
            | true =>
              go_wp2_with fail
              go_roundw
              case rel => exact ⟨k + 1, by omega, by go_num, by rw [HE.out, HRUN.out, HD.out, runU, List.append_nil]; exact own_base HO2.out.1 HO.out.2.size, HO.out.2.nextN HO2.out.2 (fun x hx => by simp at hx)⟩
              case measure => simp [intOf]; omega
            | false =>
              have HA5 := Lib.hid (HO2.out.1.alloc (Obj.cells #[.int .i64 e.2] 3))
              have HN5 := Lib.hid (Holds.new wr #[.int .i64 e.2] 3)
              have hz5 := HO2.out.2.size
              have one5 : ∀ u ∈ [Value.int .i64 e.2], u.oneCell' = true := by simp [Value.oneCell']
              go_wp2_with (at_builtin; refine wpList_append_own _ rfl _ _ 32 rfl W0.heap.size 3 i0 _ 1 8 Try.underlying32 hi hz0 hz1 hz2 rfl (by decide) _ _ _ rfl HA5.out ⟨wr.heap.size, 0, none⟩ 1 1 [.int .i64 e.2] rfl rfl (World.news_of_block HN5.out) one5 (by unfold maxLen; omega) (by omega) (by rw [World.size_alloc]; omega) ?_)
              intro v5 w5 hown5 hgrow5 _
              have hlt5 := HA5.out.lt
              have HF5 := Lib.hid (And.intro (show w5.ownsRow W0.heap.size 3 1 v5 (P ++ [e.2]).length (zv (P ++ [e.2])) by rw [zv_snoc, List.length_append]; exact hown5) (((HO2.out.2.alloc (Obj.cells #[.int .i64 e.2] 3)).nextN (gr_grownL hgrow5) (fun x hx => .inr (hlt5 x (by simpa using hx)).1))))
              clear hown5 hgrow5 hlt5 HA5 HN5 hz5
              go_wp2_with fail
              go_roundw
              case rel => exact ⟨k + 1, by omega, by go_num, by rw [HE.out, HRUN.out, HD.out, runU]; exact own_base HF5.out.1 HO.out.2.size, HO.out.2.nextN HF5.out.2 (fun x hx => by simp at hx)⟩
              case measure => simp [intOf]; omega
      · have f1 : (e.1 != c) = true := by simpa using hec
        have f2 : (e.1 == c) = false := by simpa using hec
        rw [if_neg hec] at HE
        clear hec hrd
        go_wp2
        go_roundw
        case rel => exact ⟨k + 1, by omega, by go_num, by rw [HE.out]; exact HO.out.1, HO.out.2⟩
        case measure => simp [intOf]; omega
    · obtain rfl : k = N := by omega
      have ik : ¬ ((k : Int) < (k : Int)) := by omega
      have HT := Lib.hid (show l.take k = l by rw [HN.out, List.take_length])
      clear ho g
      go_wp2
      go_ret
      refine ⟨_, rfl, ?_, HO.out.2⟩
      have q := HO.out.1
      rw [HT.out] at q
      exact q

end Go.Proofs.Ytlafmdpcabgcdaa
