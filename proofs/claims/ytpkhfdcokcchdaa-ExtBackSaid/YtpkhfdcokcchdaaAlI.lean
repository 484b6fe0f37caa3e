/-
  alloc: Take, the first runs.
-/
import Derived.Test.YtpkhfdcokcchdaaAlH
namespace Go.Proofs.Ytpkhfdcokcchdaa
open Go.RowKit

theorem gr_grown {w w' : World} {row : Option Nat} (h : w.grownBy w' row) : Gr row.toList w w' := ⟨h.os, h.tape, h.output, h.size, fun i hi hn => h.block i hi (fun e => hn (by rw [← e]; simp))⟩
def v4own (v : Value) : List Nat := v.ownBlock.toList
def restL (e : Nat × Nat) (r : Nat) : List (Nat × Nat) := if r < e.2 then [(e.1 + r, e.2 - r)] else []
theorem greedy_at {l : List (Nat × Nat)} {n k r : Nat} {e : Nat × Nat} (he : l[k]? = some e) (hr : r + sumL (l.take k) = n) (h1 : 1 ≤ r) (h2 : r ≤ e.2) :
    greedy l n = (restL e r ++ l.drop (k + 1), l.take k ++ [(e.1, r)]) := by
  induction l generalizing n k with
  | nil => cases he
  | cons y s ih =>
    unfold greedy
    cases k with
    | zero =>
      simp at he
      subst he
      simp [sumL] at hr
      subst hr
      rw [if_pos h2]
      rfl
    | succ k =>
      simp only [List.take_succ_cons, sumL] at hr
      rw [if_neg (by omega), ih (n := n - y.2) (k := k) (by simpa using he) (by omega)]
      rfl
theorem take_more {l : List (Nat × Nat)} {k n : Nat} (h : sumL (l.take k) < n) (hn : n ≤ sumL l) : k < l.length := by
  rcases Nat.lt_or_ge k l.length with q | q
  · exact q
  · rw [List.take_of_length_le q] at h; omega

set_option maxHeartbeats 4000000 in
set_option maxRecDepth 20000 in
theorem atake_greedy (N : Nat) (l : List (Nat × Nat)) (ao : Option Addr) (cap n : Nat) (w : World) (h : SetIs w N l ao cap) (hn : 1 ≤ n) (hs : n ≤ sumL l) (hi : fitI l n = none) :
    Calls Try.prog 21 #[.agg #[.int .i64 N, .slice ao l.length cap], .int .i64 n] w fun r w' => ∃ ao' cap' a2 c2, r = .returned (.tuple #[.agg #[.int .i64 N, .slice ao' (greedy l n).1.length cap'], .slice a2 (greedy l n).2.length c2, .int .i64 0]) ∧ SetIs w' N (greedy l n).1 ao' cap' ∧ Sl2 w' (.slice a2 (greedy l n).2.length c2) (zl (greedy l n).2) ∧ Gr [] w w' := by
  obtain ⟨i0, hi0, hz0, hz1, hz2⟩ := info_parts infoExt
  have HG := Lib.hid ((((Gr.refl [] w).alloc (Obj.cells #[.int .i64 N, .slice ao l.length cap] 25)).alloc (Obj.cells #[.int .i64 n] 3)).alloc (Obj.cells #[.int .i64 0, .slice none 0 0] 25))
  have HB := Lib.hid (TBox.new w N (.slice ao l.length cap) n)
  have HF := Lib.hid (fun (W : World) (g : Gr [] w W) => afree_bel N l ao cap W (h.gr0 g))
  have HI := Lib.hid (fun (W : World) (g : Gr [] w W) bn hbn => aidx_any N l ao cap bn n W (h.gr0 g) hbn)
  rw [show fitZ l n = -1 by unfold fitZ; rw [hi]] at HI
  have HGR := Lib.hid (greedy_ok h.runs hn hs)
  have HS := Lib.hid h
  have hlen := h.len
  have hhi := h.hi
  have hsum := sumL_le h.runs
  clear hi
  obtain ⟨m, hm⟩ : ∃ m, m = l.length := ⟨_, rfl⟩
  obtain ⟨s, hs'⟩ : ∃ s, s = sumL l := ⟨_, rfl⟩
  obtain ⟨m1, hm1⟩ : ∃ m1, m1 = (greedy l n).1.length := ⟨_, rfl⟩
  obtain ⟨m2, hm2⟩ : ∃ m2, m2 = (greedy l n).2.length := ⟨_, rfl⟩
  have h0m : 0 < m := by rw [hm]; exact take_more (k := 0) (n := n) (by simp [sumL]; omega) hs
  obtain ⟨e0, he0⟩ : ∃ e, l[0]? = some e := ⟨_, List.getElem?_eq_getElem (by omega)⟩
  obtain ⟨b0, o, hao, hb, -, -⟩ := h.at he0
  have HC := Lib.hid hb
  subst hao
  clear h he0 hb
  rw [← hm] at HG HB HF HI hlen ⊢
  rw [← hs'] at HF hs hsum
  rw [← hm1, ← hm2]
  have HM := Lib.hid (And.intro hm (And.intro hs' (And.intro hm1 hm2)))
  clear hm hs' hm1 hm2
  have hs2 : ¬ (s : Int) < (n : Int) := by omega
  go_enter Try.func21, Try.ntmps21
  go_wp2_with fail
  generalize ((w.alloc (Obj.cells #[.int .i64 N, .slice (some ⟨b0, o, none⟩) m cap] 25)).alloc (Obj.cells #[.int .i64 n] 3)).alloc (Obj.cells #[.int .i64 0, .slice none 0 0] 25) = wa at *
  have k0 := kp_cell HB.out.s0
  have k1 := kp_cell HB.out.s1
  have k2 := kp_cell HB.out.k0
  have hne := kp_ne wa
  refine wp_region_kp (by kernel_rfl) (by kernel_rfl) ?_
  repeat (go_big_quiet_step ((rename_i x; exact kp_call x (HF.out _ (HG.out.nextB x.h)))))
  with_reducible refine wpQuiet_nil ?_
  rintro _ ⟨y, rfl⟩
  clear k0 k1 k2 hne
  have b1 := HB.out.gr0 (.ofBelow y.h)
  have g1 := HG.out.nextB y.h
  generalize y.w = w1 at *
  clear y HG HB HF
  have s1 := b1.s1
  have HK := Lib.hid (And.intro b1 g1)
  clear b1 g1
  go_wp2_with fail
  refine (HI.out _ HK.out.2 _ HK.out.1.k0).mono ?_
  rintro e' w2 ⟨rfl, g2⟩
  have b2 := HK.out.1.gr0 g2
  have G2 := HK.out.2.next0 g2
  clear s1 g2 HK HI
  have HK := Lib.hid (And.intro b2 G2)
  clear b2 G2
  generalize hB0 : w.heap.size = B at *
  have HB0 := Lib.hid hB0
  clear hB0
  have HB3 := Lib.hid (show B + 3 ≤ w2.heap.size by have := HK.out.1.r.lt; omega)
  go_wp2_with fail
  go_loopw [11, 12] (fun v i wr => ∃ k r : Nat, r + sumL (l.take k) = n ∧ 1 ≤ r ∧ k < m ∧ i = .int .i64 k ∧ TBox wr B N (.slice (some ⟨b0, o, none⟩) m cap) r ∧ wr.ownsRow (B + 3) 35 2 v k (cells2 (zl (l.take k))) ∧ Gr [] w wr) (fun _ i _ => m - (intOf i).toNat)
  case atStart => exact ⟨0, n, by simp [sumL], hn, h0m, rfl, HK.out.1, World.ownsRow_nil _ _ _ _, HK.out.2⟩
  case round =>
    clear HK
    obtain ⟨k, r, hr, hr1, hk, rfl, T, ho, G⟩ := hrel
    obtain ⟨e, he⟩ : ∃ e, l[k]? = some e := ⟨_, List.getElem?_eq_getElem (by have := HM.out.1; omega)⟩
    obtain ⟨b', o', hao', hb', c1, c2⟩ := (HS.out.gr0 G).at he
    injection hao' with hao'
    injection hao' with q1 q2
    subst q1 q2
    have hme := HS.out.mem he
    have HQ := Lib.hid (And.intro hr (And.intro T (And.intro ho (And.intro G he))))
    have d1 := kp_cell c1
    have d2 := kp_cell c2
    have t1 := kp_cell T.s1
    have t2 := kp_cell T.k0
    have hne := kp_ne wr
    have hrn : r ≤ n := by omega
    clear c1 c2 T ho G he hr hb'
    go_wp2_with fail
    by_cases c : e.2 < r
    · have hc : (e.2 : Int) < (r : Int) := by omega
      refine wp_region_kp (by kernel_rfl) (by kernel_rfl) ?_
      repeat (go_big_quiet_step (fail))
      with_reducible refine wpQuiet_nil ?_
      rintro _ ⟨y, rfl⟩
      have d1 := d1 y
      have d2 := d2 y
      have t1 := t1 y
      have T3 := HQ.out.2.1.gr0 (.ofBelow y.h)
      have o3 := own_keep HQ.out.2.2.1 y.h
      have G3 := HQ.out.2.2.2.1.nextB y.h
      clear t2 hne
      generalize y.w = w3 at *
      clear y
      have HQ3 := Lib.hid (And.intro T3 (And.intro o3 G3))
      have HSZ := Lib.hid (show B + 3 ≤ w3.heap.size by have := T3.r.lt; omega)
      have HN3 := Lib.hid (Holds.new w3 #[.int .i64 e.1, .int .i64 e.2] 35)
      have HO3 := Lib.hid (o3.alloc (Obj.cells #[.int .i64 e.1, .int .i64 e.2] 35))
      clear T3 o3 G3
      go_wp2_with (at_builtin; refine wpList_append_own _ rfl _ _ 23 rfl (B + 3) 35 i0 _ 2 16 Try.underlying23 hi0 hz0 hz1 hz2 rfl (by decide) _ _ _ rfl HO3.out ⟨w3.heap.size, 0, none⟩ 1 1 [.int .i64 e.1, .int .i64 e.2] rfl rfl (World.news_of_block HN3.out) (one_two e.1 e.2) (by unfold maxLen; omega) (by omega) (by have := HSZ.out; rw [World.size_alloc]; omega) ?_)
      intro v4 w4 hown4 hgrow4 _
      have hlt4 := HO3.out.lt
      have g4 : Gr (v4own u11) (w3.alloc (Obj.cells #[.int .i64 e.1, .int .i64 e.2] 35)) w4 := gr_grown hgrow4
      have hb4 : ∀ b ∈ v4own u11, B + 3 ≤ b := fun b hb => (hlt4 b (by unfold v4own at hb; simpa using hb)).1
      have T4 := (HQ3.out.1.gr0 ((Gr.refl [] w3).alloc _)).gr g4 hb4
      have G4 : Gr [] w w4 := (HQ3.out.2.2.alloc (Obj.cells #[.int .i64 e.1, .int .i64 e.2] 35)).nextN g4 (fun x hx => .inr (by have := hb4 x hx; rw [HB0.out]; omega))
      have o4 : w4.ownsRow (B + 3) 35 2 v4 (k + 1) (cells2 (zl (l.take (k + 1)))) := by
        have : zl (l.take (k + 1)) = zl (l.take k) ++ [((e.1 : Int), (e.2 : Int))] := by
          obtain ⟨p1, p2⟩ := List.getElem?_eq_some_iff.1 HQ.out.2.2.2.2
          rw [List.take_succ_eq_append_getElem p1, zl_append, p2]; rfl
        rw [this, cells2_append]
        exact hown4
      have e1 : w4.cell? ⟨b0, o + k * 2 + 1, none⟩ = some (.int .i64 (e.2 : Int)) := by
        obtain ⟨b', o', hao', hb', c1, c2⟩ := (HS.out.gr0 G4).at HQ.out.2.2.2.2
        injection hao' with hao'
        injection hao' with q1 q2
        subst q1 q2
        exact c2
      have a1 := kp_cell e1
      have a2 := kp_cell T4.s1
      have a3 := kp_cell T4.k0
      have hne := kp_ne w4
      have HQ4 := Lib.hid (And.intro T4 (And.intro o4 G4))
      have hwr : IntKind.i64.wrap ((r : Int) - (e.2 : Int)) = (r : Int) - (e.2 : Int) := IntWalk.i64_in _ (by omega)
      clear d1 d2 t1 hown4 hgrow4 hlt4 g4 hb4 T4 G4 o4 e1 HO3 HN3 HQ3
      go_wp2_with fail
      refine wp_region_kp_tail 8 (by kernel_rfl) (by kernel_rfl) ?_
      simp only [List.take_succ_cons, List.take_zero, List.drop_succ_cons, List.drop_zero]
      repeat (go_big_quiet_step (fail))
      with_reducible refine wpQuiet_nil ?_
      rintro _ ⟨y, rfl⟩
      have T5 := HQ4.out.1.gr0 (.ofBelow y.h)
      have o5 := own_keep HQ4.out.2.1 y.h
      have G5 := HQ4.out.2.2.nextB y.h
      clear a1 a2 a3 hne
      generalize y.w = w5 at *
      clear y
      obtain ⟨r', hr'⟩ : ∃ r', r' = r - e.2 := ⟨_, rfl⟩
      have hr2 : (r : Int) - (e.2 : Int) = (r' : Int) := by omega
      have hr3 : 1 ≤ r' := by omega
      have k5 := T5.k0
      have f5 := T5.kf
      have gs := (Gr.refl [B + 1] w5).setCell (p := ⟨B + 1, 0, none⟩) (.inl (by simp)) (.int .i64 (r' : Int))
      have HF := Lib.hid (show TBox (w5.setCell ⟨B + 1, 0, none⟩ (.int .i64 (r' : Int))) B N (.slice (some ⟨b0, o, none⟩) m cap) r' ∧ (w5.setCell ⟨B + 1, 0, none⟩ (.int .i64 (r' : Int))).ownsRow (B + 3) 35 2 v4 (k + 1) (cells2 (zl (l.take (k + 1)))) ∧ Gr [] w (w5.setCell ⟨B + 1, 0, none⟩ (.int .i64 (r' : Int))) from
        ⟨⟨T5.s.gr gs (by simp), T5.k.set 0 _, T5.r.gr gs (by simp)⟩, own_gr o5 gs (fun b hb => by have := (o5.lt b hb).1; simp; omega), G5.setCell (p := ⟨B + 1, 0, none⟩) (.inr (by rw [HB0.out]; simp only; omega)) _⟩)
      have HR := Lib.hid (show r' + sumL (l.take (k + 1)) = n ∧ k + 1 < m by
        have q1 := sumL_take_succ HQ.out.2.2.2.2
        have q2 := HQ.out.1
        have q3 := HM.out.2.1
        refine ⟨by omega, ?_⟩
        rw [HM.out.1]
        exact take_more (n := n) (by omega) (by omega))
      clear T5 o5 G5 gs hr' hwr
      go_wp2_with fail
      go_roundw
      case rel => exact ⟨k + 1, r', HR.out.1, hr3, HR.out.2, by go_num, HF.out.1, HF.out.2.1, HF.out.2.2⟩
      case measure => simp [intOf]; omega
    · have hc : ¬ (e.2 : Int) < (r : Int) := by omega
      refine wp_region_kp (by kernel_rfl) (by kernel_rfl) ?_
      repeat (go_big_quiet_step (fail))
      with_reducible refine wpQuiet_nil ?_
      rintro _ ⟨y, rfl⟩
      have d1 := d1 y
      have d2 := d2 y
      have t1 := t1 y
      have T3 := HQ.out.2.1.gr0 (.ofBelow y.h)
      have o3 := own_keep HQ.out.2.2.1 y.h
      have G3 := HQ.out.2.2.2.1.nextB y.h
      have HSZ2 := Lib.hid (Below.size y.h)
      clear t2 hne
      generalize y.w = w3 at *
      clear y
      have HGA := Lib.hid (greedy_at HQ.out.2.2.2.2 HQ.out.1 hr1 (show r ≤ e.2 by omega))
      obtain rfl : m2 = k + 1 := by rw [HM.out.2.2.2, HGA.out]; simp [HM.out.1 ▸ Nat.le_of_lt hk]
      have gx := (Gr.refl [] w3).alloc (Obj.cells #[.int .i64 e.1, .int .i64 e.2] 35)
      have Tx := T3.gr0 gx
      have kx := Tx.k0
      have XX := Holds.new w3 #[.int .i64 e.1, .int .i64 e.2] 35
      have x0 := XX.cell 0
      have x1 := XX.cell 1
      have HN3 := Lib.hid (Holds.new (w3.alloc (Obj.cells #[.int .i64 e.1, .int .i64 e.2] 35)) #[.int .i64 e.1, .int .i64 r] 35)
      rw [World.size_alloc] at HN3
      have ho3 := (o3.alloc (Obj.cells #[.int .i64 e.1, .int .i64 e.2] 35)).alloc (Obj.cells #[.int .i64 e.1, .int .i64 r] 35)
      have HO3 := Lib.hid ho3
      have HSZ := Lib.hid (show B + 3 ≤ w3.heap.size by have := T3.r.lt; omega)
      have HX := Lib.hid (And.intro Tx (And.intro XX (G3.next0 gx)))
      clear T3 o3 G3 gx Tx XX ho3
      go_wp2_with (at_builtin; refine wpList_append_own _ rfl _ _ 23 rfl (B + 3) 35 i0 _ 2 16 Try.underlying23 hi0 hz0 hz1 hz2 rfl (by decide) _ _ _ rfl HO3.out ⟨w3.heap.size + 1, 0, none⟩ 1 1 [.int .i64 e.1, .int .i64 r] rfl rfl (World.news_of_block HN3.out) (one_two e.1 r) (by unfold maxLen; omega) (by omega) (by have := HSZ.out; rw [World.size_alloc, World.size_alloc]; omega) ?_)
      intro v5 w5 hown5 hgrow5 _
      have hlt5 := HO3.out.lt
      have g5 : Gr (v4own u11) ((w3.alloc (Obj.cells #[.int .i64 e.1, .int .i64 e.2] 35)).alloc (Obj.cells #[.int .i64 e.1, .int .i64 r] 35)) w5 := gr_grown hgrow5
      have hb5 : ∀ b ∈ v4own u11, B + 3 ≤ b ∧ b < w3.heap.size ∨ b ≠ w3.heap.size ∧ B + 3 ≤ b := fun b hb => by
        have q1 := hlt5 b (by unfold v4own at hb; simpa using hb)
        have q2 := HQ.out.2.2.1.lt b (by unfold v4own at hb; simpa using hb)
        left
        have q4 := HSZ2.out
        omega
      have hb5' : ∀ b ∈ v4own u11, B + 3 ≤ b := fun b hb => by have := hb5 b hb; omega
      have T5 := (HX.out.1.gr0 ((Gr.refl [] _).alloc _)).gr g5 hb5'
      have X5 := (HX.out.2.1.alloc (Obj.cells #[.int .i64 e.1, .int .i64 r] 35)).gr g5 (fun e => by have := hb5 _ e; omega)
      have G5 : Gr [] w w5 := (HX.out.2.2.alloc (Obj.cells #[.int .i64 e.1, .int .i64 r] 35)).nextN g5 (fun x hx => .inr (by have := hb5' x hx; rw [HB0.out]; omega))
      have o5 : w5.ownsRow (B + 3) 35 2 v5 (k + 1) (cells2 (zl (greedy l n).2)) := by
        rw [HGA.out]
        show w5.ownsRow _ _ _ _ _ (cells2 (zl (l.take k ++ [(e.1, r)])))
        rw [zl_append, cells2_append]
        exact hown5
      obtain ⟨a2, c2, rfl⟩ := own_form o5
      have s0 := T5.s0
      have s1 := T5.s1
      have k5 := T5.k0
      have y0 : w5.cell? ⟨w3.heap.size, 0, none⟩ = some (.int .i64 e.1) := X5.cell 0
      have y1 : w5.cell? ⟨w3.heap.size, 1, none⟩ = some (.int .i64 e.2) := X5.cell 1
      have HQ5 := Lib.hid (And.intro T5 (And.intro X5 (And.intro G5 o5)))
      have HRL := Lib.hid (show (greedy l n).1 = l.take 0 ++ restL e r ++ l.drop (k + 1) by rw [HGA.out]; simp)
      clear d1 d2 t1 kx x0 x1 hown5 hgrow5 hlt5 g5 hb5 hb5' T5 X5 G5 o5 HO3 HN3
      by_cases p : r < e.2
      · obtain ⟨z, hz⟩ : ∃ z, z = e.1 + r := ⟨_, rfl⟩
        obtain ⟨d, hd⟩ : ∃ d, d = e.2 - r := ⟨_, rfl⟩
        have hz' : (e.1 : Int) + (r : Int) = (z : Int) := by omega
        have hd' : (e.2 : Int) - (r : Int) = (d : Int) := by omega
        have hzw : z ≤ 65536 := by omega
        have hdw : d ≤ 65536 := by omega
        have HRR := Lib.hid (show restL e r = [(z, d)] by unfold restL; rw [if_pos p, hz, hd])
        have HW := Lib.hid (fun (W : World) (g : Gr [] w W) (hrd : Rd2 W (some ⟨w5.heap.size, 0, none⟩) (zl [(z, d)])) => awith_some N 0 (k + 1) m1 l (greedy l n).1 b0 o cap (some ⟨w5.heap.size, 0, none⟩) [(z, d)] 1 W (HS.out.gr0 g) (by omega) (by rw [← HM.out.1]; omega) hrd (by simp) (fun e => by cases e) (by simp) (by rw [HRL.out, HRR.out]) HM.out.2.2.1)
        rw [show ((k + 1 : Nat) : Int) = (k : Int) + 1 by omega, show ((0 : Nat) : Int) = 0 from rfl, ← HM.out.1] at HW
        have ga := (Gr.refl [] w5).alloc (Obj.cells #[.int .i64 z, .int .i64 d] 35)
        have s0a := (HQ5.out.1.gr0 ga).s0
        have s1a := (HQ5.out.1.gr0 ga).s1
        have HA := Lib.hid (And.intro ga (holds_rd2 (l := zl [(z, d)]) (show Holds (w5.alloc (Obj.cells #[.int .i64 z, .int .i64 d] 35)) w5.heap.size (cells2 (zl [(z, d)])).toArray 35 from Holds.new w5 _ _)))
        clear ga hz hd
        have hp : (r : Int) < (e.2 : Int) := by omega
        go_wp2_with fail
        refine (HW.out _ (HQ5.out.2.2.1.next0 HA.out.1) HA.out.2).mono ?_
        rintro e' w6 ⟨ao', cap', rfl, hs6, g6, hk6⟩
        have gg := HA.out.1.trans g6
        have T6 := HQ5.out.1.gr0 gg
        have r0 := T6.r0
        have r1 := T6.r1
        have f0 := T6.f0
        have f1 := T6.f1
        have HE := Lib.hid (And.intro (setOf HGR.out.1 HS.out.hi (HM.out.2.2.1 ▸ hs6)) (And.intro gg (And.intro hk6 (own_gr0 HQ5.out.2.2.2 gg))))
        clear T6 gg g6 hk6 hs6 s0a s1a
        have gw : Gr [B + 1 + 1] w6 ((w6.setCell ⟨B + 1 + 1, 0, none⟩ (.int .i64 N)).setCell ⟨B + 1 + 1, 1, none⟩ (.slice ao' m1 cap')) := ((Gr.refl _ _).setCell (p := ⟨B + 1 + 1, 0, none⟩) (.inl (by simp)) _).setCell (p := ⟨B + 1 + 1, 1, none⟩) (.inl (by simp)) _
        have HGW := Lib.hid gw
        have HLT := Lib.hid (show B + 3 ≤ w5.heap.size by have := HQ5.out.1.r.lt; omega)
        clear gw
        go_wp2_with fail
        refine bodyPost_ret (v := .tuple #[.agg #[.int .i64 N, .slice ao' m1 cap'], .slice a2 (k + 1) c2, .int .i64 0]) (by simp [results, Try.results21, go_sem, *]) rfl ⟨ao', cap', a2, c2, rfl, ?_, ?_, ?_⟩
        · obtain ⟨h1, h2, h3, _⟩ := HE.out
          refine ⟨h1.runs, h1.hi, h1.rd.gr HGW.out (fun k' o' e => ?_), h1.cap1, h1.cap2, h1.none⟩
          have q1 := h3 k' o' e
          have q2 := HLT.out
          have q3 := HA.out.1.size
          simp; omega
        · have q := own_gr HE.out.2.2.2 HGW.out (fun b hb => by have := (HE.out.2.2.2.lt b hb).1; simp; omega)
          exact own_sl2 q
        · exact ((HQ5.out.2.2.1.trans HE.out.2.1).setCell (p := ⟨B + 1 + 1, 0, none⟩) (.inr (by rw [HB0.out]; simp only; omega)) _).setCell (p := ⟨B + 1 + 1, 1, none⟩) (.inr (by rw [HB0.out]; simp only; omega)) _
      · have HRR := Lib.hid (show restL e r = [] by unfold restL; rw [if_neg p])
        have HW := Lib.hid (fun (W : World) (g : Gr [] w W) => awith_some N 0 (k + 1) m1 l (greedy l n).1 b0 o cap none [] 0 W (HS.out.gr0 g) (by omega) (by rw [← HM.out.1]; omega) (Rd2.nil _ _) (by simp) (fun _ => rfl) (by simp) (by rw [HRL.out, HRR.out]) HM.out.2.2.1)
        rw [show ((k + 1 : Nat) : Int) = (k : Int) + 1 by omega, show ((0 : Nat) : Int) = 0 from rfl, ← HM.out.1] at HW
        have HA := Lib.hid (And.intro (Gr.refl [] w5) True.intro)
        have hp : ¬ (r : Int) < (e.2 : Int) := by omega
        go_wp2_with fail
        refine (HW.out _ (HQ5.out.2.2.1.next0 HA.out.1)).mono ?_
        rintro e' w6 ⟨ao', cap', rfl, hs6, g6, hk6⟩
        have gg := HA.out.1.trans g6
        have T6 := HQ5.out.1.gr0 gg
        have r0 := T6.r0
        have r1 := T6.r1
        have f0 := T6.f0
        have f1 := T6.f1
        have HE := Lib.hid (And.intro (setOf HGR.out.1 HS.out.hi (HM.out.2.2.1 ▸ hs6)) (And.intro gg (And.intro hk6 (own_gr0 HQ5.out.2.2.2 gg))))
        clear T6 gg g6 hk6 hs6
        have gw : Gr [B + 1 + 1] w6 ((w6.setCell ⟨B + 1 + 1, 0, none⟩ (.int .i64 N)).setCell ⟨B + 1 + 1, 1, none⟩ (.slice ao' m1 cap')) := ((Gr.refl _ _).setCell (p := ⟨B + 1 + 1, 0, none⟩) (.inl (by simp)) _).setCell (p := ⟨B + 1 + 1, 1, none⟩) (.inl (by simp)) _
        have HGW := Lib.hid gw
        have HLT := Lib.hid (show B + 3 ≤ w5.heap.size by have := HQ5.out.1.r.lt; omega)
        clear gw
        go_wp2_with fail
        refine bodyPost_ret (v := .tuple #[.agg #[.int .i64 N, .slice ao' m1 cap'], .slice a2 (k + 1) c2, .int .i64 0]) (by simp [results, Try.results21, go_sem, *]) rfl ⟨ao', cap', a2, c2, rfl, ?_, ?_, ?_⟩
        · obtain ⟨h1, h2, h3, _⟩ := HE.out
          refine ⟨h1.runs, h1.hi, h1.rd.gr HGW.out (fun k' o' e => ?_), h1.cap1, h1.cap2, h1.none⟩
          have q1 := h3 k' o' e
          have q2 := HLT.out
          have q3 := HA.out.1.size
          simp; omega
        · have q := own_gr HE.out.2.2.2 HGW.out (fun b hb => by have := (HE.out.2.2.2.lt b hb).1; simp; omega)
          exact own_sl2 q
        · exact ((HQ5.out.2.2.1.trans HE.out.2.1).setCell (p := ⟨B + 1 + 1, 0, none⟩) (.inr (by rw [HB0.out]; simp only; omega)) _).setCell (p := ⟨B + 1 + 1, 1, none⟩) (.inr (by rw [HB0.out]; simp only; omega)) _

end Go.Proofs.Ytpkhfdcokcchdaa
