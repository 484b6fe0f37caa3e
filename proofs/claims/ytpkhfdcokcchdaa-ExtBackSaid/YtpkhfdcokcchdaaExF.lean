/-
  Layer 15: the program's join.
-/
import Derived.Test.YtpkhfdcokcchdaaExE
import Derived.Test.YtpkhfdcokcchdaaExD
import Derived.Deep.Onto
namespace Go.Proofs.Ytpkhfdcokcchdaa
open Go.RowKit

theorem joinP_take {l : List (Int × Int)} {k : Nat} {e : Int × Int} (h : l[k]? = some e) : joinP (l.take (k + 1)) = addR (joinP (l.take k)) e := by
  obtain ⟨h1, h2⟩ := List.getElem?_eq_some_iff.1 h
  rw [List.take_succ_eq_append_getElem h1, h2]
  unfold joinP
  rw [List.foldl_append]
  rfl
theorem join_take_ok {l : List (Int × Int)} {B : Int} (hb : ∀ e ∈ l, -1 ≤ e.1 ∧ e.1 ≤ B ∧ 1 ≤ e.2) (k : Nat) (hk : k ≤ l.length) : (∀ p ∈ joinP (l.take k), -1 ≤ p.1 ∧ p.1 ≤ B ∧ 1 ≤ p.2) ∧ sumZ (joinP (l.take k)) = sumZ (l.take k) := by
  induction k with
  | zero => simp [joinP, sumZ]
  | succ k ih =>
    obtain ⟨i1, i2⟩ := ih (by omega)
    have hx := List.getElem?_eq_getElem (show k < l.length by omega)
    have hbx := hb _ (List.mem_of_getElem? hx)
    rw [joinP_take hx, sumZ_take hx]
    rcases List.eq_nil_or_concat (joinP (l.take k)) with h | ⟨A, p, h⟩
    · rw [h] at i1 i2 ⊢
      rw [addR_nil]
      simp only [sumZ] at i2 ⊢
      exact ⟨fun q hq => by simp at hq; subst hq; exact hbx, by omega⟩
    · rw [List.concat_eq_append] at h
      rw [h] at i1 i2 ⊢
      rw [addR_snoc]
      rw [sumZ_append] at i2
      simp only [sumZ] at i2
      have hp := i1 p (by simp)
      split
      · refine ⟨fun q hq => ?_, ?_⟩
        · rcases List.mem_append.1 hq with z | z
          · exact i1 q (by simp [z])
          · simp at z; subst z; exact ⟨hp.1, hp.2.1, by simp only; omega⟩
        · rw [sumZ_append]; simp only [sumZ]; omega
      · refine ⟨fun q hq => ?_, ?_⟩
        · rcases List.mem_append.1 hq with z | z
          · exact i1 q z
          · simp at z; subst z; exact hbx
        · rw [sumZ_append, sumZ_append]; simp only [sumZ]; omega
theorem sumZ_hi {l : List (Int × Int)} (h : ∀ e ∈ l, 1 ≤ e.2 ∧ e.2 ≤ 65536) (k : Nat) : sumZ (l.take k) ≤ 65536 * l.length := by
  have := small_sum h k
  by_cases hk : k ≤ l.length
  · have : (65536 : Int) * (k : Int) ≤ 65536 * (l.length : Int) := by omega
    omega
  · rw [List.take_of_length_le (by omega)]
    have := small_sum h l.length
    rw [List.take_length] at this
    omega

set_option maxHeartbeats 4000000 in
set_option maxRecDepth 20000 in
theorem ejoin_any (LL : List (Option Addr × Nat × List (Int × Int))) (RL : List (Int × Int)) (bb cp : Nat) (w : World) (hR : catP LL = RL) (h : CatIn LL bb w) (hL : LL.length ≤ 100) (hN2 : RL.length ≤ 200) (hb : ∀ e ∈ RL, -1 ≤ e.1 ∧ e.1 ≤ 1000000 ∧ 1 ≤ e.2 ∧ e.2 ≤ 65536) :
    Calls Try.prog 101 #[.slice (some ⟨bb, 0, none⟩) LL.length cp] w fun e w' => ∃ ao' cap', e = .returned (.slice ao' (joinP RL).length cap') ∧ w'.ownsRow w.heap.size 35 2 (.slice ao' (joinP RL).length cap') (joinP RL).length (cells2 (joinP RL)) ∧ Gr [] w w' := by
  obtain ⟨i0, hi0, hz0, hz1, hz2⟩ := info_parts infoExt
  obtain ⟨N, hN⟩ : ∃ N, N = RL.length := ⟨_, rfl⟩
  have HC := Lib.hid (econcat_is LL RL N bb cp w hR hN h hL (by omega))
  have HN := Lib.hid hN
  have HB := Lib.hid (fun k (hk : k ≤ RL.length) => join_take_ok (B := 1000000) (fun e he => ⟨(hb e he).1, (hb e he).2.1, (hb e he).2.2.1⟩) k hk)
  have HS := Lib.hid (fun k => sumZ_hi (fun e he => ⟨(hb e he).2.2.1, (hb e he).2.2.2⟩) k)
  have HBX := Lib.hid hb
  rw [← hN] at hN2
  clear hR h hL hN hb
  go_enter Try.func101, Try.ntmps101
  go_wp2_with fail
  refine HC.out.mono ?_
  rintro e w1 ⟨a1, c1, rfl, r1, g1⟩
  have H1 := Lib.hid (And.intro r1 g1)
  clear HC r1 g1
  go_wp2_with fail
  go_loopw [3, 10] (fun v i wr => ∃ k : Nat, k ≤ N ∧ i = .int .i64 k ∧ wr.ownsRow w1.heap.size 35 2 v (joinP (RL.take k)).length (cells2 (joinP (RL.take k))) ∧ Gr [] w1 wr) (fun _ i _ => N - (intOf i).toNat)
  case atStart => exact ⟨0, by omega, rfl, World.ownsRow_nil _ _ _ _, Gr.refl _ _⟩
  case round =>
    obtain ⟨k, hk, rfl, ho, G⟩ := hrel
    have HQ := Lib.hid (And.intro ho G)
    have hsz := G.size
    clear ho G
    by_cases hkN : k < N
    · have hkN2 : (k : Int) < (N : Int) := by omega
      obtain ⟨⟨x1, x2⟩, hx⟩ : ∃ x, RL[k]? = some x := ⟨_, List.getElem?_eq_getElem (by have := HN.out; omega)⟩
      obtain ⟨bk, o, hao, hbk, c1, c2⟩ := H1.out.1 k _ hx
      have y0 : wr.cell? ⟨bk, o + k * 2, none⟩ = some (.int .i64 x1) := (HQ.out.2.cell0 hbk).trans c1
      have y1 : wr.cell? ⟨bk, o + k * 2 + 1, none⟩ = some (.int .i64 x2) := (HQ.out.2.cell0 hbk).trans c2
      have hxb := HBX.out _ (List.mem_of_getElem? hx)
      simp only at hxb
      have HXB := Lib.hid hxb
      have HST := Lib.hid (joinP_take hx)
      obtain ⟨hok1, hok2⟩ := HB.out k (by have := HN.out; omega)
      have hs9 := HS.out k
      rw [← HN.out] at hs9
      have hln := sumZ_mem (fun p hp => (hok1 p hp).2.2)
      rw [hok2] at hln
      have HGA := Lib.hid (HQ.out.2.alloc (Obj.cells #[.int .i64 x1, .int .i64 x2] 35))
      have HX := Lib.hid (Holds.new wr #[.int .i64 x1, .int .i64 x2] 35)
      have HOA := Lib.hid (HQ.out.1.alloc (Obj.cells #[.int .i64 x1, .int .i64 x2] 35))
      subst hao
      clear c1 c2 hx hxb
      rcases List.eq_nil_or_concat (joinP (RL.take k)) with hnil | ⟨A, ⟨p1, p2⟩, hcat⟩
      · rw [hnil] at HQ HOA HST
        have hu : ∃ aa cc, u3 = .slice aa 0 cc := by
          obtain ⟨aa, cc, hv⟩ := own_form HQ.out.1
          exact ⟨aa, cc, hv⟩
        obtain ⟨aa, cc, rfl⟩ := hu
        clear hok1 hok2 hln hs9
        go_wp2_with fail
        go_quiet (fail)
        have z0 : ((wr.alloc (Obj.cells #[.int .i64 x1, .int .i64 x2] 35)).drewN nq).cell? ⟨wr.heap.size, 0, none⟩ = some (.int .i64 x1) := (HX.out.gr0 ((Gr.refl [] _).drewN nq)).cell 0
        have z1 : ((wr.alloc (Obj.cells #[.int .i64 x1, .int .i64 x2] 35)).drewN nq).cell? ⟨wr.heap.size, 1, none⟩ = some (.int .i64 x2) := (HX.out.gr0 ((Gr.refl [] _).drewN nq)).cell 1
        have hzs : w1.heap.size ≤ ((wr.alloc (Obj.cells #[.int .i64 x1, .int .i64 x2] 35)).drewN nq).heap.size := (HGA.out.drewN nq).size
        have HOY := Lib.hid (own_gr0 HOA.out ((Gr.refl [] (wr.alloc (Obj.cells #[.int .i64 x1, .int .i64 x2] 35))).drewN nq))
        have HGY := Lib.hid (HGA.out.drewN nq)
        generalize (wr.alloc (Obj.cells #[.int .i64 x1, .int .i64 x2] 35)).drewN nq = wy at *
        have HN3 := Lib.hid (Holds.new wy #[.int .i64 x1, .int .i64 x2] 35)
        have HO3 := Lib.hid (HOY.out.alloc (Obj.cells #[.int .i64 x1, .int .i64 x2] 35))
        have hone : ∀ u ∈ [Value.int .i64 x1, .int .i64 x2], u.oneCell' = true := by simp [Value.oneCell']
        go_wp2_with (at_builtin; refine wpList_append_own _ rfl _ _ 82 rfl w1.heap.size 35 i0 _ 2 16 Try.underlying82 hi0 hz0 hz1 hz2 rfl (by decide) _ _ _ rfl HO3.out ⟨wy.heap.size, 0, none⟩ 1 1 [.int .i64 x1, .int .i64 x2] rfl rfl (World.news_of_block HN3.out) hone (by unfold maxLen; simp) (by simp) (by rw [World.size_alloc]; omega) ?_)
        intro v4 w4 hown4 hgrow4 _
        have hlt4 := HO3.out.lt
        have HF := Lib.hid (And.intro (show w4.ownsRow w1.heap.size 35 2 v4 (joinP (RL.take (k + 1))).length (cells2 (joinP (RL.take (k + 1)))) by
          rw [HST.out, addR_nil]; exact hown4) ((HGY.out.alloc (Obj.cells #[.int .i64 x1, .int .i64 x2] 35)).nextN (gr_grown hgrow4) (fun x hx => .inr (hlt4 x (by simpa using hx)).1)))
        clear hown4 hgrow4 hlt4 HO3 HN3 hone z0 z1 y0 y1
        go_wp2_with fail
        go_roundw
        case rel => exact ⟨k + 1, by omega, by go_num, HF.out.1, HF.out.2⟩
        case measure => simp [intOf]; omega
      · rw [List.concat_eq_append] at hcat
        rw [hcat] at HQ HOA HST hln hok1 hok2
        have hp := hok1 (p1, p2) (by simp)
        simp only at hp
        have hp2 : p2 ≤ 14000000 := by
          have := hln.2 (p1, p2) (by simp)
          simp only at this
          omega
        rw [List.length_append] at HQ HOA
        have hln2 : A.length ≤ 14000000 := by
          have := hln.1
          rw [List.length_append] at this
          push_cast at this
          simp at this
          omega
        have hv : ∃ g c, u3 = .slice (some ⟨g, 0, none⟩) (A.length + 1) c ∧ w1.heap.size ≤ g ∧ g < wr.heap.size := HQ.out.1.form (Nat.succ_pos _)
        obtain ⟨g, c, rfl, hg1, hg2⟩ := hv
        obtain ⟨-, e0, e1, e2, e3⟩ := row_upZ HOA.out (p2 + x2)
        obtain ⟨q, hq⟩ : ∃ q, q = A.length := ⟨_, rfl⟩
        rw [← hq] at e0 e1 e2 HQ HOA hln2 ⊢
        have HQL := Lib.hid hq
        have i1 : (q : Int) + 1 - 1 = (q : Int) := by omega
        have i3 : IntKind.i64.wrap (q : Int) = (q : Int) := IntWalk.i64_in _ (by omega)
        have i4 : IntKind.i64.wrap (p2 + x2) = p2 + x2 := IntWalk.i64_in _ (by have := HXB.out; omega)
        have i5 : (q : Int) < (q : Int) + 1 := by omega
        have i6 : (0 : Int) ≤ (q : Int) := by omega
        obtain ⟨m, hm⟩ : ∃ m, m = mrg (p1, p2) (x1, x2) := ⟨_, rfl⟩
        have z0 : (wr.alloc (Obj.cells #[.int .i64 x1, .int .i64 x2] 35)).cell? ⟨wr.heap.size, 0, none⟩ = some (.int .i64 x1) := HX.out.cell 0
        have z1 : (wr.alloc (Obj.cells #[.int .i64 x1, .int .i64 x2] 35)).cell? ⟨wr.heap.size, 1, none⟩ = some (.int .i64 x2) := HX.out.cell 1
        have k0 := kp_cell e0
        have k1 := kp_cell e1
        have k2 := kp_cell z0
        have k3 := kp_cell z1
        have hne := kp_ne (wr.alloc (Obj.cells #[.int .i64 x1, .int .i64 x2] 35))
        have P1 := Lib.hid (fun x_ : Cls (Kp (wr.alloc (Obj.cells #[.int .i64 x1, .int .i64 x2] 35))) => kcall_of (emerge_any p1 p2 x1 x2 x_.w (IntWalk.i64_in _ (by omega))))
        rw [← hm] at P1
        rw [addR_snoc, ← hm] at HST
        clear hq hcat hok1 hok2 hln hp hm e3 hs9
        go_wp2_with fail
        refine wp_region_kp (by kernel_rfl) (by kernel_rfl) ?_
        repeat (go_big_quiet_step ((rename_i x_; with_reducible exact kp_call x_ (P1.out x_))))
        with_reducible refine wpQuiet_nil ?_
        rintro _ ⟨y, rfl⟩
        have HY := Lib.hid (And.intro (own_keep HOA.out y.h) (HGA.out.nextB y.h))
        have z0 := k2 y
        have z1 := k3 y
        have v1 := k1 y
        have zf : y.w.frozen? ⟨g, q * 2 + 1, none⟩ = false := HY.out.1.frozenAt _
        have hszy := HY.out.2.size
        clear k0 k1 k2 k3 hne P1 e0 e1 e2 HQ HOA
        generalize y.w = wy at *
        clear y
        cases m with
        | true =>
          rw [if_pos rfl] at HST
          have HUP := Lib.hid (show (wy.setCell ⟨g, q * 2 + 1, none⟩ (.int .i64 (p2 + x2))).ownsRow w1.heap.size 35 2 (.slice (some ⟨g, 0, none⟩) (q + 1) c) (q + 1) (cells2 (A ++ [(p1, p2 + x2)])) by
            have hz := HY.out.1
            rw [HQL.out] at hz ⊢
            exact (row_upZ hz (p2 + x2)).2.2.2.2)
          go_wp2_with fail
          go_still_tail 10, (by kernel_rfl)
          go_wp2_with fail
          go_roundw
          case rel =>
            refine ⟨k + 1, by omega, by go_num, ?_, (HY.out.2.setCell (p := ⟨g, q * 2 + 1, none⟩) (.inr hg1) _).drewN _⟩
            rw [HST.out, List.length_append, ← HQL.out]
            exact HUP.out
          case measure => simp [intOf]; omega
        | false =>
          rw [if_neg (by simp)] at HST
          have HN3 := Lib.hid (Holds.new wy #[.int .i64 x1, .int .i64 x2] 35)
          have HO3 := Lib.hid (HY.out.1.alloc (Obj.cells #[.int .i64 x1, .int .i64 x2] 35))
          have hone : ∀ u ∈ [Value.int .i64 x1, .int .i64 x2], u.oneCell' = true := by simp [Value.oneCell']
          go_wp2_with (at_builtin; refine wpList_append_own _ rfl _ _ 82 rfl w1.heap.size 35 i0 _ 2 16 Try.underlying82 hi0 hz0 hz1 hz2 rfl (by decide) _ _ _ rfl HO3.out ⟨wy.heap.size, 0, none⟩ 1 1 [.int .i64 x1, .int .i64 x2] rfl rfl (World.news_of_block HN3.out) hone (by simp only [List.length_cons, List.length_nil]; unfold maxLen; omega) (by simp only [List.length_cons, List.length_nil]; omega) (by rw [World.size_alloc]; omega) ?_)
          intro v4 w4 hown4 hgrow4 _
          have hlt4 := HO3.out.lt
          have HF := Lib.hid (And.intro (show w4.ownsRow w1.heap.size 35 2 v4 (joinP (RL.take (k + 1))).length (cells2 (joinP (RL.take (k + 1)))) by
            rw [HST.out, List.length_append, List.length_append, cells2_append, ← HQL.out]; exact hown4) ((HY.out.2.alloc (Obj.cells #[.int .i64 x1, .int .i64 x2] 35)).nextN (gr_grown hgrow4) (fun x hx => .inr (hlt4 x (by simpa using hx)).1)))
          clear hown4 hgrow4 hlt4 HO3 HN3 hone z0 z1
          go_wp2_with fail
          go_roundw
          case rel => exact ⟨k + 1, by omega, by go_num, HF.out.1, HF.out.2⟩
          case measure => simp [intOf]; omega
    · obtain rfl : k = N := by omega
      have ht : RL.take k = RL := by rw [HN.out]; exact List.take_length
      rw [ht] at HQ
      obtain ⟨ao', cap', rfl⟩ := own_form HQ.out.1
      have HF := Lib.hid (And.intro (HQ.out.1.mono H1.out.2.size) (H1.out.2.next0 HQ.out.2))
      clear HQ
      go_wp2_with fail
      go_ret
      exact ⟨_, _, rfl, HF.out.1, HF.out.2⟩

end Go.Proofs.Ytpkhfdcokcchdaa
