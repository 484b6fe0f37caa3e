/-
  Layer 14: the document's answer, Extents.
-/
import Derived.Test.YtpkhfdcokcchdaaAlU
import Derived.Test.YtpkhfdcokcchdaaAlI
import Derived.StillTailTactics
namespace Go.Proofs.Ytpkhfdcokcchdaa
open Go.RowKit

theorem infoP2 : (Try.prog.info? 44).map (fun i => (i.zero, i.size, i.bytes)) = some (some (.agg #[.int .i64 0, .int .i64 0]), 2, 16) := by kernel_rfl
theorem row_up {w : World} {base : Nat} {e : TypeId} {g cap : Nat} {A : List (Nat × Nat)} {a b : Nat} (h : w.ownsRow base e 2 (.slice (some ⟨g, 0, none⟩) (A.length + 1) cap) (A.length + 1) (cells2 (zl (A ++ [(a, b)])))) :
    w.cell? ⟨g, A.length * 2 + 1, none⟩ = some (.int .i64 (b : Int)) ∧ w.frozen? ⟨g, A.length * 2 + 1, none⟩ = false ∧ (w.setCell ⟨g, A.length * 2 + 1, none⟩ (.int .i64 ((b + 1 : Nat) : Int))).ownsRow base e 2 (.slice (some ⟨g, 0, none⟩) (A.length + 1) cap) (A.length + 1) (cells2 (zl (A ++ [(a, b + 1)]))) := by
  refine ⟨?_, h.frozenAt _, ?_⟩
  · rw [h.cellAt _ (by omega)]
    have := (cells2_get (zl (A ++ [(a, b)])) A.length ((a : Int), (b : Int)) (by rw [zl_get]; simp)).2
    exact this
  · have := (h.stored (A.length * 2 + 1) (.int .i64 ((b + 1 : Nat) : Int))).1
    have e1 : (cells2 (zl (A ++ [(a, b)]))).set (A.length * 2 + 1) (.int .i64 ((b + 1 : Nat) : Int)) = cells2 (zl (A ++ [(a, b + 1)])) := by
      have := cells2_bump (zl A) (a : Int) (b : Int) ((b + 1 : Nat) : Int)
      rw [zl_len] at this
      rw [zl_append, zl_append]
      exact this
    rw [e1] at this
    exact this

set_option maxHeartbeats 4000000 in
set_option maxRecDepth 20000 in
theorem rext_any (N : Nat) (m : Nat → Bool) (ao : Option Addr) (cap : Nat) (w : World) (h : RdM w ao N m) (hN : N ≤ 65536) :
    Calls Try.prog 71 #[.slice ao N cap] w fun e w' => ∃ v, e = .returned v ∧ w'.ownsRow w.heap.size 44 2 v (extP m N).length (cells2 (zl (extP m N))) ∧ Gr [] w w' := by
  obtain ⟨i0, hi0, hz0, hz1, hz2⟩ := info_parts infoP2
  have HS := Lib.hid h
  clear h
  go_enter Try.func71, Try.ntmps71
  go_wp2_with fail
  go_loopw [3, 4] (fun v i wr => ∃ k : Nat, k ≤ N ∧ i = .int .i64 k ∧ wr.ownsRow w.heap.size 44 2 v (extP m k).length (cells2 (zl (extP m k))) ∧ Gr [] w wr) (fun _ i _ => N - (intOf i).toNat)
  case atStart => exact ⟨0, by omega, rfl, World.ownsRow_nil _ _ _ _, Gr.refl _ _⟩
  case round =>
    obtain ⟨k, hk, rfl, ho, G⟩ := hrel
    have HQ := Lib.hid (And.intro ho G)
    have hsz := G.size
    clear ho G
    by_cases hlt : k < N
    · obtain ⟨b, o, hao, hb, c1⟩ := HS.out k hlt
      have d1 : wr.cell? ⟨b, o + k, none⟩ = some (.bool (m k)) := by rw [HQ.out.2.cell0 hb]; exact c1
      clear c1
      cases hm : m k with
      | false =>
        rw [hm] at d1
        have HE := Lib.hid (extP_no hm)
        clear hm
        subst hao
        go_wp2_with fail
        go_roundw
        case rel => exact ⟨k + 1, by omega, by go_num, by rw [HE.out]; exact HQ.out.1, HQ.out.2⟩
        case measure => simp [intOf]; omega
      | true =>
        rw [hm] at d1
        by_cases hp : 0 < k ∧ m (k - 1) = true
        · obtain ⟨A, ⟨pa, pb⟩, hA, hB⟩ := extP_up hm hp.1 hp.2
          obtain ⟨j, hj⟩ : ∃ j, j + 1 = k := ⟨k - 1, by omega⟩
          have hjn : j < N := by omega
          obtain ⟨b', o', hao', hb', c1⟩ := HS.out j hjn
          rw [hao] at hao'
          injection hao' with hao'
          injection hao' with q1 q2
          subst q1 q2
          have d2 : wr.cell? ⟨b, o + j, none⟩ = some (.bool true) := by
            rw [HQ.out.2.cell0 hb, c1, show j = k - 1 by omega, hp.2]
          have HJ := Lib.hid hj
          have hj2 : (k : Int) - 1 = (j : Int) := by omega
          have hk0 : (0 : Int) < (k : Int) := by omega
          have hrow := HQ.out.1
          have hle : (extP m k).length ≤ k := extP_len m k
          rw [hA, List.length_append] at hrow hle
          have HA := Lib.hid (And.intro hA hB)
          have hx : ∃ g c, u3 = .slice (some ⟨g, 0, none⟩) (A.length + 1) c ∧ w.heap.size ≤ g ∧ g < wr.heap.size := hrow.form (Nat.succ_pos _)
          obtain ⟨g, c, rfl, hg1, hg2⟩ := hx
          obtain ⟨e1, e2, e3⟩ := row_up hrow
          have HR := Lib.hid (And.intro e3 hg1)
          have hL : A.length ≤ 65536 := by simp at hle; omega
          have hpb : pb ≤ 65536 := by
            have := runs_mem (extP_ok m k).1 (e := (pa, pb)) (by rw [hA]; simp)
            simp only at this
            omega
          clear hA hB hm hp hj hrow hle e3 c1 hb'
          subst hao
          obtain ⟨L, hL0⟩ : ∃ L, L = A.length := ⟨_, rfl⟩
          rw [← hL0] at e1 e2 hL ⊢
          have HL := Lib.hid hL0
          clear hL0
          have i2 : (L : Int) + 1 - 1 = (L : Int) := by omega
          have i3 : IntKind.i64.wrap (L : Int) = (L : Int) := IntWalk.i64_in _ (by omega)
          have i4 : IntKind.i64.wrap ((pb : Int) + 1) = (pb : Int) + 1 := IntWalk.i64_in _ (by omega)
          have i5 : (L : Int) < (L : Int) + 1 := by omega
          have i6 : (0 : Int) ≤ (L : Int) := by omega
          go_wp2_with fail
          go_still_tail 10, (by kernel_rfl)
          go_wp2_with fail
          go_roundw
          case rel =>
            refine ⟨k + 1, by omega, by go_num, ?_, ?_⟩
            · rw [HA.out.2, List.length_append]
              have e4 := HR.out.1
              rw [← HL.out] at e4 ⊢
              exact e4
            · exact (HQ.out.2.setCell (p := ⟨g, L * 2 + 1, none⟩) (.inr HR.out.2) _).drewN _
          case measure => simp [intOf]; omega
        · have HE := Lib.hid (extP_new hm hp)
          have hcase : k = 0 ∨ (0 < k ∧ m (k - 1) = false) := by
            by_cases h0 : k = 0
            · exact .inl h0
            · right
              refine ⟨by omega, ?_⟩
              cases q : m (k - 1) with
              | false => rfl
              | true => exact absurd ⟨by omega, q⟩ hp
          clear hp hm
          have hle : (extP m k).length ≤ k := extP_len m k
          have HL := Lib.hid hle
          obtain ⟨L, hL⟩ : ∃ L, L = (extP m k).length := ⟨_, rfl⟩
          rw [← hL] at hle HQ
          have HLL := Lib.hid hL
          have HN3 := Lib.hid (Holds.new wr #[.int .i64 k, .int .i64 1] 44)
          have HO3 := Lib.hid (HQ.out.1.alloc (Obj.cells #[.int .i64 k, .int .i64 1] 44))
          have hone : ∀ u ∈ [Value.int .i64 (k : Int), .int .i64 1], u.oneCell' = true := by simp [Value.oneCell']
          clear hL
          rcases hcase with h0 | ⟨h0, h1⟩
          · have hk0 : ¬ (0 : Int) < (k : Int) := by omega
            clear h0
            subst hao
            go_wp2_with (at_builtin; refine wpList_append_own _ rfl _ _ 39 rfl w.heap.size 44 i0 _ 2 16 Try.underlying39 hi0 hz0 hz1 hz2 rfl (by decide) _ _ _ rfl HO3.out ⟨wr.heap.size, 0, none⟩ 1 1 [.int .i64 k, .int .i64 1] rfl rfl (World.news_of_block HN3.out) hone (by unfold maxLen; omega) (by omega) (by rw [World.size_alloc]; omega) ?_)
            intro v4 w4 hown4 hgrow4 _
            have hlt4 := HO3.out.lt
            have g4 : Gr (v4own u3) (wr.alloc (Obj.cells #[.int .i64 k, .int .i64 1] 44)) w4 := gr_grown hgrow4
            have HF := Lib.hid (And.intro (show w4.ownsRow w.heap.size 44 2 v4 (extP m (k + 1)).length (cells2 (zl (extP m (k + 1)))) by
              rw [HE.out, List.length_append, zl_append, cells2_append, ← HLL.out]; exact hown4) ((HQ.out.2.alloc (Obj.cells #[.int .i64 k, .int .i64 1] 44)).nextN g4 (fun x hx => .inr (hlt4 x (by unfold v4own at hx; simpa using hx)).1)))
            clear hown4 hgrow4 hlt4 g4 HO3 HN3 d1 HE
            go_wp2_with fail
            go_roundw
            case rel => exact ⟨k + 1, by omega, by go_num, HF.out.1, HF.out.2⟩
            case measure => simp [intOf]; omega
          · obtain ⟨j, hj⟩ : ∃ j, j + 1 = k := ⟨k - 1, by omega⟩
            have hjn : j < N := by omega
            obtain ⟨b', o', hao', hb', c1⟩ := HS.out j hjn
            rw [hao] at hao'
            injection hao' with hao'
            injection hao' with q1 q2
            subst q1 q2
            have d2 : wr.cell? ⟨b, o + j, none⟩ = some (.bool false) := by
              rw [HQ.out.2.cell0 hb, c1, show j = k - 1 by omega, h1]
            have HJ := Lib.hid hj
            have hj2 : (k : Int) - 1 = (j : Int) := by omega
            have hk0 : (0 : Int) < (k : Int) := by omega
            clear h0 h1 hj c1 hb'
            subst hao
            go_wp2_with (at_builtin; refine wpList_append_own _ rfl _ _ 39 rfl w.heap.size 44 i0 _ 2 16 Try.underlying39 hi0 hz0 hz1 hz2 rfl (by decide) _ _ _ rfl HO3.out ⟨wr.heap.size, 0, none⟩ 1 1 [.int .i64 k, .int .i64 1] rfl rfl (World.news_of_block HN3.out) hone (by unfold maxLen; omega) (by omega) (by rw [World.size_alloc]; omega) ?_)
            intro v4 w4 hown4 hgrow4 _
            have hlt4 := HO3.out.lt
            have g4 : Gr (v4own u3) (wr.alloc (Obj.cells #[.int .i64 k, .int .i64 1] 44)) w4 := gr_grown hgrow4
            have HF := Lib.hid (And.intro (show w4.ownsRow w.heap.size 44 2 v4 (extP m (k + 1)).length (cells2 (zl (extP m (k + 1)))) by
              rw [HE.out, List.length_append, zl_append, cells2_append, ← HLL.out]; exact hown4) ((HQ.out.2.alloc (Obj.cells #[.int .i64 k, .int .i64 1] 44)).nextN g4 (fun x hx => .inr (hlt4 x (by unfold v4own at hx; simpa using hx)).1)))
            clear hown4 hgrow4 hlt4 g4 HO3 HN3 d1 d2 HE
            go_wp2_with fail
            go_roundw
            case rel => exact ⟨k + 1, by omega, by go_num, HF.out.1, HF.out.2⟩
            case measure => simp [intOf]; omega
    · obtain rfl : k = N := by omega
      go_wp2_with fail
      go_ret
      exact ⟨_, rfl, HQ.out.1, HQ.out.2⟩

end Go.Proofs.Ytpkhfdcokcchdaa
