/-
  Layer 15: the document's answer: Runs, Blocks.
-/
import Derived.Test.YtpkhfdcokcchdabExC
import Derived.StillTailTactics
namespace Go.Proofs.Ytpkhfdcokcchdab
open Go.RowKit

theorem runsP_snoc (b : List Int) (x : Int) : runsP (b ++ [x]) = addR (runsP b) (x, 1) := by
  unfold runsP joinP
  rw [List.map_append, List.foldl_append]
  rfl
theorem runsP_take {b : List Int} {k : Nat} {x : Int} (h : b[k]? = some x) : runsP (b.take (k + 1)) = addR (runsP (b.take k)) (x, 1) := by
  obtain ⟨h1, h2⟩ := List.getElem?_eq_some_iff.1 h
  rw [List.take_succ_eq_append_getElem h1, h2, runsP_snoc]
theorem runs_take_ok {b : List Int} {B : Int} (hb : ∀ x ∈ b, -1 ≤ x ∧ x ≤ B) (k : Nat) (hk : k ≤ b.length) : (∀ p ∈ runsP (b.take k), -1 ≤ p.1 ∧ p.1 ≤ B ∧ 1 ≤ p.2) ∧ sumZ (runsP (b.take k)) = k := by
  induction k with
  | zero => simp [runsP, joinP, sumZ]
  | succ k ih =>
    obtain ⟨i1, i2⟩ := ih (by omega)
    have hx := List.getElem?_eq_getElem (show k < b.length by omega)
    have hbx := hb _ (List.mem_of_getElem? hx)
    rw [runsP_take hx]
    rcases List.eq_nil_or_concat (runsP (b.take k)) with h | ⟨A, p, h⟩
    · rw [h] at i1 i2 ⊢
      rw [addR_nil]
      simp only [sumZ] at i2 ⊢
      exact ⟨fun q hq => by simp at hq; subst hq; exact ⟨hbx.1, hbx.2, by simp⟩, by simp; omega⟩
    · rw [List.concat_eq_append] at h
      rw [h] at i1 i2 ⊢
      rw [addR_snoc]
      rw [sumZ_append] at i2
      simp only [sumZ] at i2
      have hp := i1 p (by simp)
      split
      · refine ⟨fun q hq => ?_, ?_⟩
        · rcases List.mem_append.1 hq with z | z
          · exact i1 q (by simp [z])
          · simp at z; subst z; exact ⟨hp.1, hp.2.1, by simp only; omega⟩
        · rw [sumZ_append]; simp only [sumZ]; omega
      · refine ⟨fun q hq => ?_, ?_⟩
        · rcases List.mem_append.1 hq with z | z
          · exact i1 q z
          · simp at z; subst z; exact ⟨hbx.1, hbx.2, by simp⟩
        · rw [sumZ_append, sumZ_append]; simp only [sumZ]; omega
theorem sumZ_mem {l : List (Int × Int)} (h : ∀ p ∈ l, 1 ≤ p.2) : (l.length : Int) ≤ sumZ l ∧ ∀ p ∈ l, p.2 ≤ sumZ l := by
  induction l with
  | nil => simp [sumZ]
  | cons e r ih =>
    obtain ⟨i1, i2⟩ := ih (fun p hp => h p (by simp [hp]))
    have he := h e (by simp)
    simp only [sumZ, List.length_cons]
    refine ⟨by push_cast; omega, fun p hp => ?_⟩
    rcases List.mem_cons.1 hp with z | z
    · subst z; omega
    · have := i2 p z; omega
/-- The cells from an address on read as integers. -/
def RdZ (w : World) (ao : Option Addr) (b : List Int) : Prop :=
  ∀ i x, b[i]? = some x → ∃ k o, ao = some ⟨k, o, none⟩ ∧ k < w.heap.size ∧ w.cell? ⟨k, o + i, none⟩ = some (.int .i64 x)
theorem RdZ.gr0 {w w' : World} {ao : Option Addr} {b : List Int} (h : RdZ w ao b) (g : Gr [] w w') : RdZ w' ao b := fun i x hi => by
  obtain ⟨k, o, h1, h2, h3⟩ := h i x hi
  exact ⟨k, o, h1, Nat.lt_of_lt_of_le h2 g.size, (g.cell0 h2).trans h3⟩
def cellsZ (b : List Int) : List Value := b.map (Value.int .i64)
theorem cellsZ_append (a b : List Int) : cellsZ (a ++ b) = cellsZ a ++ cellsZ b := by simp [cellsZ]
theorem own_rdZ {w : World} {base : Nat} {e : TypeId} {n : Nat} {ao : Option Addr} {cap : Nat} {b : List Int} (h : w.ownsRow base e 1 (.slice ao n cap) n (cellsZ b)) : RdZ w ao b := by
  intro i x hi
  have hlt := (List.getElem?_eq_some_iff.1 hi).1
  have hn : b.length = n := by have := h.1; simp [cellsZ] at this; omega
  obtain ⟨g, cap', hv, hg1, hg2⟩ := h.form (by omega)
  injection hv with q1 q2 q3
  subst q1
  have h' : w.ownsRow base e 1 (.slice (some ⟨g, 0, none⟩) n cap) n (cellsZ b) := h
  refine ⟨g, 0, rfl, hg2, ?_⟩
  rw [Nat.zero_add, h'.cellAt i (by omega)]
  simp [cellsZ, hi]
theorem cells2_up (A : List (Int × Int)) (a b c : Int) : (cells2 (A ++ [(a, b)])).set (A.length * 2 + 1) (.int .i64 c) = cells2 (A ++ [(a, c)]) := cells2_bump A a b c
theorem row_upZ {w : World} {base : Nat} {e : TypeId} {g cap n : Nat} {A : List (Int × Int)} {a b : Int} (h : w.ownsRow base e 2 (.slice (some ⟨g, 0, none⟩) n cap) n (cells2 (A ++ [(a, b)]))) (c : Int) :
    n = A.length + 1 ∧ w.cell? ⟨g, A.length * 2, none⟩ = some (.int .i64 a) ∧ w.cell? ⟨g, A.length * 2 + 1, none⟩ = some (.int .i64 b) ∧ w.frozen? ⟨g, A.length * 2 + 1, none⟩ = false ∧ (w.setCell ⟨g, A.length * 2 + 1, none⟩ (.int .i64 c)).ownsRow base e 2 (.slice (some ⟨g, 0, none⟩) n cap) n (cells2 (A ++ [(a, c)])) := by
  have hn : n = A.length + 1 := by
    have := h.1
    rw [cells2_len, List.length_append] at this
    simp at this
    omega
  obtain ⟨q0, q1⟩ := cells2_get (A ++ [(a, b)]) A.length (a, b) (by simp)
  refine ⟨hn, ?_, ?_, h.frozenAt _, ?_⟩
  · rw [h.cellAt _ (by omega)]; exact q0
  · rw [h.cellAt _ (by omega)]; exact q1
  · have := (h.stored (A.length * 2 + 1) (.int .i64 c)).1
    rw [cells2_up] at this
    exact this

set_option maxHeartbeats 4000000 in
set_option maxRecDepth 20000 in
theorem rruns_any (b : List Int) (N : Nat) (ao : Option Addr) (cap : Nat) (w : World) (h : RdZ w ao b) (hN : N = b.length) (hb : ∀ x ∈ b, -1 ≤ x ∧ x ≤ 1000000) (hN2 : N ≤ 1000000) :
    Calls Try.prog 32 #[.slice ao N cap] w fun e w' => ∃ v, e = .returned v ∧ w'.ownsRow w.heap.size 46 2 v (runsP b).length (cells2 (runsP b)) ∧ Gr [] w w' := by
  obtain ⟨i0, hi0, hz0, hz1, hz2⟩ := info_parts infoP2
  have HR := Lib.hid h
  have HN := Lib.hid hN
  have HB := Lib.hid (fun k (hk : k ≤ b.length) => runs_take_ok hb k hk)
  have HBX := Lib.hid hb
  clear h hN hb
  go_enter Try.func32, Try.ntmps32
  go_wp2_with fail
  go_loopw [3, 4] (fun v i wr => ∃ k : Nat, k ≤ N ∧ i = .int .i64 k ∧ wr.ownsRow w.heap.size 46 2 v (runsP (b.take k)).length (cells2 (runsP (b.take k))) ∧ Gr [] w wr) (fun _ i _ => N - (intOf i).toNat)
  case atStart => exact ⟨0, by omega, rfl, World.ownsRow_nil _ _ _ _, Gr.refl _ _⟩
  case round =>
    obtain ⟨k, hk, rfl, ho, G⟩ := hrel
    have HQ := Lib.hid (And.intro ho G)
    have hsz := G.size
    clear ho G
    by_cases hkN : k < N
    · have hkN2 : (k : Int) < (N : Int) := by omega
      obtain ⟨x, hx⟩ : ∃ x, b[k]? = some x := ⟨_, List.getElem?_eq_getElem (by have := HN.out; omega)⟩
      obtain ⟨bk, o, hao, hbk, c1⟩ := HR.out k x hx
      have d1 : wr.cell? ⟨bk, o + k, none⟩ = some (.int .i64 x) := (HQ.out.2.cell0 hbk).trans c1
      have HXB := Lib.hid (HBX.out x (List.mem_of_getElem? hx))
      have HST := Lib.hid (runsP_take hx)
      obtain ⟨hok1, hok2⟩ := HB.out k (by have := HN.out; omega)
      have hln := (sumZ_mem (fun p hp => (hok1 p hp).2.2)).1
      rw [hok2] at hln
      subst hao
      clear c1 hx
      rcases List.eq_nil_or_concat (runsP (b.take k)) with hnil | ⟨A, ⟨p1, p2⟩, hcat⟩
      · rw [hnil] at HQ HST hln
        have HN3 := Lib.hid (Holds.new wr #[.int .i64 x, .int .i64 1] 46)
        have HO3 := Lib.hid (HQ.out.1.alloc (Obj.cells #[.int .i64 x, .int .i64 1] 46))
        have hone : ∀ u ∈ [Value.int .i64 x, .int .i64 1], u.oneCell' = true := by simp [Value.oneCell']
        have hu : ∃ aa cc, u3 = .slice aa 0 cc := by
          obtain ⟨aa, cc, hv⟩ := own_form2 HQ.out.1
          exact ⟨aa, cc, hv⟩
        obtain ⟨aa, cc, rfl⟩ := hu
        clear hok1 hok2 hln
        go_wp2_with (at_builtin; refine wpList_append_own _ rfl _ _ 22 rfl w.heap.size 46 i0 _ 2 16 Try.underlying22 hi0 hz0 hz1 hz2 rfl (by decide) _ _ _ rfl HO3.out ⟨wr.heap.size, 0, none⟩ 1 1 [.int .i64 x, .int .i64 1] rfl rfl (World.news_of_block HN3.out) hone (by unfold maxLen; simp) (by simp) (by rw [World.size_alloc]; omega) ?_)
        intro v4 w4 hown4 hgrow4 _
        have hlt4 := HO3.out.lt
        have HF := Lib.hid (And.intro (show w4.ownsRow w.heap.size 46 2 v4 (runsP (b.take (k + 1))).length (cells2 (runsP (b.take (k + 1)))) by
          rw [HST.out, addR_nil]; exact hown4) ((HQ.out.2.alloc (Obj.cells #[.int .i64 x, .int .i64 1] 46)).nextN (gr_grown hgrow4) (fun x hx => .inr (hlt4 x (by simpa using hx)).1)))
        clear hown4 hgrow4 hlt4 HO3 HN3 d1 hone
        go_wp2_with fail
        go_roundw
        case rel => exact ⟨k + 1, by omega, by go_num, HF.out.1, HF.out.2⟩
        case measure => simp [intOf]; omega
      · rw [List.concat_eq_append] at hcat
        rw [hcat] at HQ HST hln hok1 hok2
        have hp := hok1 (p1, p2) (by simp)
        simp only at hp
        have hp2 : p2 ≤ 1000000 := by
          have := (sumZ_mem (fun p hp => (hok1 p hp).2.2)).2 (p1, p2) (by simp)
          rw [hok2] at this
          simp only at this
          omega
        rw [List.length_append] at HQ hln
        have hv : ∃ g c, u3 = .slice (some ⟨g, 0, none⟩) (A.length + 1) c ∧ w.heap.size ≤ g ∧ g < wr.heap.size := HQ.out.1.form (Nat.succ_pos _)
        obtain ⟨g, c, rfl, hg1, hg2⟩ := hv
        obtain ⟨-, e0, e1, e2, e3⟩ := row_upZ HQ.out.1 (p2 + 1)
        have HR3 := Lib.hid (And.intro e3 hg1)
        obtain ⟨q, hq⟩ : ∃ q, q = A.length := ⟨_, rfl⟩
        rw [← hq] at e0 e1 e2 HQ HR3 ⊢
        have HQL := Lib.hid hq
        have hq6 : q ≤ 1000000 := by simp at hln; omega
        have i2 : (q : Int) + 1 - 1 = (q : Int) := by omega
        have i3 : IntKind.i64.wrap (q : Int) = (q : Int) := IntWalk.i64_in _ (by omega)
        have i4 : IntKind.i64.wrap (p2 + 1) = p2 + 1 := IntWalk.i64_in _ (by omega)
        have i5 : (q : Int) < (q : Int) + 1 := by omega
        have i6 : (0 : Int) ≤ (q : Int) := by omega
        have i7 : (0 : Int) < (q : Int) + 1 := by omega
        have i8 : (0 : Int) ≤ (k : Int) := by omega
        obtain ⟨m, hm⟩ : ∃ m, m = mrg (p1, p2) (x, 1) := ⟨_, rfl⟩
        have k0 := kp_cell e0
        have k1 := kp_cell e1
        have k2 := kp_cell d1
        have hne := kp_ne wr
        have P1 := Lib.hid (fun x_ : Cls (Kp wr) => kcall_of (rjoins_any p1 p2 x 1 x_.w (IntWalk.i64_in _ (by omega))))
        rw [← hm] at P1
        rw [addR_snoc, ← hm] at HST
        clear hq hcat hok1 hok2 hln hp hm e3
        go_wp2_with fail
        refine wp_region_kp (by kernel_rfl) (by kernel_rfl) ?_
        repeat (go_big_quiet_step ((rename_i x_; with_reducible exact kp_call x_ (P1.out x_))))
        with_reducible refine wpQuiet_nil ?_
        rintro _ ⟨y, rfl⟩
        have HY := Lib.hid (And.intro (own_keep HQ.out.1 y.h) (HQ.out.2.nextB y.h))
        have z0 := k0 y
        have z1 := k1 y
        have z2 := k2 y
        have zf : y.w.frozen? ⟨g, q * 2 + 1, none⟩ = false := HY.out.1.frozenAt _
        have hszy := HY.out.2.size
        clear k0 k1 k2 hne P1 e0 e1 e2 d1 HR3 HQ
        generalize y.w = wy at *
        clear y
        cases m with
        | true =>
          rw [if_pos rfl] at HST
          have HUP := Lib.hid (show (wy.setCell ⟨g, q * 2 + 1, none⟩ (.int .i64 (p2 + 1))).ownsRow w.heap.size 46 2 (.slice (some ⟨g, 0, none⟩) (q + 1) c) (q + 1) (cells2 (A ++ [(p1, p2 + 1)])) by
            have hz := HY.out.1
            rw [HQL.out] at hz ⊢
            exact (row_upZ hz (p2 + 1)).2.2.2.2)
          go_wp2_with fail
          go_still_tail 9, (by kernel_rfl)
          go_wp2_with fail
          go_roundw
          case rel =>
            refine ⟨k + 1, by omega, by go_num, ?_, (HY.out.2.setCell (p := ⟨g, q * 2 + 1, none⟩) (.inr hg1) _).drewN _⟩
            rw [HST.out, List.length_append, ← HQL.out]
            exact HUP.out
          case measure => simp [intOf]; omega
        | false =>
          rw [if_neg (by simp)] at HST
          have HN3 := Lib.hid (Holds.new wy #[.int .i64 x, .int .i64 1] 46)
          have HO3 := Lib.hid (HY.out.1.alloc (Obj.cells #[.int .i64 x, .int .i64 1] 46))
          have hone : ∀ u ∈ [Value.int .i64 x, .int .i64 1], u.oneCell' = true := by simp [Value.oneCell']
          go_wp2_with (at_builtin; refine wpList_append_own _ rfl _ _ 22 rfl w.heap.size 46 i0 _ 2 16 Try.underlying22 hi0 hz0 hz1 hz2 rfl (by decide) _ _ _ rfl HO3.out ⟨wy.heap.size, 0, none⟩ 1 1 [.int .i64 x, .int .i64 1] rfl rfl (World.news_of_block HN3.out) hone (by simp only [List.length_cons, List.length_nil]; unfold maxLen; omega) (by simp only [List.length_cons, List.length_nil]; omega) (by rw [World.size_alloc]; omega) ?_)
          intro v4 w4 hown4 hgrow4 _
          have hlt4 := HO3.out.lt
          have HF := Lib.hid (And.intro (show w4.ownsRow w.heap.size 46 2 v4 (runsP (b.take (k + 1))).length (cells2 (runsP (b.take (k + 1)))) by
            rw [HST.out, List.length_append, List.length_append, cells2_append, ← HQL.out]; exact hown4) ((HY.out.2.alloc (Obj.cells #[.int .i64 x, .int .i64 1] 46)).nextN (gr_grown hgrow4) (fun x hx => .inr (hlt4 x (by simpa using hx)).1)))
          clear hown4 hgrow4 hlt4 HO3 HN3 hone
          go_wp2_with fail
          go_roundw
          case rel => exact ⟨k + 1, by omega, by go_num, HF.out.1, HF.out.2⟩
          case measure => simp [intOf]; omega
    · obtain rfl : k = N := by omega
      have ht : b.take k = b := by rw [HN.out]; exact List.take_length
      rw [ht] at HQ
      go_wp2_with fail
      go_ret
      exact ⟨_, rfl, HQ.out.1, HQ.out.2⟩

end Go.Proofs.Ytpkhfdcokcchdab
