/-
  Layer 24: the document's without.
-/
import Derived.Test.YtlafmdpcabgcdaaLkN
namespace Go.Proofs.Ytlafmdpcabgcdaa
open Go.RowKit

theorem infoPair : (Try.prog.info? 63).map (fun i => (i.zero, i.size, i.bytes)) = some (some (.agg #[.int .i64 0, .int .i64 0]), 2, 16) := by kernel_rfl
theorem one_pair (e : Int × Int) : ∀ u ∈ [Value.int .i64 e.1, Value.int .i64 e.2], u.oneCell' = true := by simp [Value.oneCell']
set_option maxRecDepth 100000 in
set_option maxHeartbeats 8000000 in
theorem without_at (ao : Option Addr) (l : List (Int × Int)) (capL : Nat) (c x : Int) (all : Bool) (w : World) (hl : RdP w ao l) (hlen : l.length ≤ 1000) (hcap : l.length ≤ capL) :
    Calls Try.prog 27 #[.slice ao l.length capL, .int .i64 c, .int .i64 x, .bool all] w fun e w' => ∃ v, e = .returned v ∧ w'.ownsRow w.heap.size 63 2 v (withoutP l c x all).length (pv (withoutP l c x all)) ∧ Gr [] w w' := by
  obtain ⟨i0, hi, hz0, hz1, hz2⟩ := info_parts infoPair
  have HR := Lib.hid hl
  obtain ⟨N, hN⟩ : ∃ N, N = l.length := ⟨_, rfl⟩
  rw [← hN] at hlen hcap ⊢
  have HN := Lib.hid hN
  clear hl hN
  go_enter Try.func27, Try.ntmps27
  go_wp2
  go_loopw [9, 10] (fun v i wr => ∃ k : Nat, k ≤ N ∧ i = .int .i64 k ∧ wr.ownsRow w.heap.size 63 2 v (withoutP (l.take k) c x all).length (pv (withoutP (l.take k) c x all)) ∧ Gr [] w wr) (fun _ i _ => N - (intOf i).toNat)
  case atStart => exact ⟨0, by omega, rfl, World.ownsRow_nil _ _ _ _, Gr.refl _ _⟩
  case round =>
    obtain ⟨k, hk, rfl, ho, g⟩ := hrel
    have HO := Lib.hid (And.intro ho g)
    by_cases hlt : k < N
    · have ik : (k : Int) < (N : Int) := by omega
      obtain ⟨e, he⟩ : ∃ e, l[k]? = some e := ⟨_, List.getElem?_eq_getElem (by have := HN.out; omega)⟩
      have HE := Lib.hid (show withoutP (l.take (k + 1)) c x all = withoutP (l.take k) c x all ++ (if (decide (e.1 ≠ c) || (!all && decide (e.2 ≠ x))) = true then [e] else []) by
        obtain ⟨h1, h2⟩ := List.getElem?_eq_some_iff.1 he
        rw [List.take_succ_eq_append_getElem h1, h2, withoutP_snoc])
      obtain ⟨b1, o1, rfl, hb1, z1, z2⟩ := HR.out k e he
      have c1 : wr.cell? ⟨b1, o1 + k * 2, none⟩ = some (.int .i64 e.1) := (g.cell0 hb1).trans z1
      have c2 : wr.cell? ⟨b1, o1 + k * 2 + 1, none⟩ = some (.int .i64 e.2) := (g.cell0 hb1).trans z2
      have hlk : (withoutP (l.take k) c x all).length ≤ k := by
        have := withoutP_len (l.take k) c x all
        rw [List.length_take] at this
        omega
      obtain ⟨O, hO⟩ : ∃ O, O = withoutP (l.take k) c x all := ⟨_, rfl⟩
      rw [← hO] at HE HO ho hlk
      clear he z1 z2 g hO
      obtain ⟨ao2, cap2, rfl, -, -, -, -⟩ := own_rdp ho
      clear ho
      by_cases qc : e.1 = c
      · have f31 := qc
        by_cases qa : all = true
        · subst qa
          rw [if_neg (by simp [qc])] at HE
          have g1 : (e.1 != c) = false := by simp [qc]
          have g2 : (e.1 == c) = true := by simp [qc]
          clear f31 qc
          go_wp2_with fail
          go_roundw
          case rel => exact ⟨k + 1, by omega, by go_num, by rw [HE.out, List.append_nil]; exact HO.out.1, HO.out.2⟩
          case measure => simp [intOf]; omega
        · obtain rfl : all = false := by simpa using qa
          by_cases qx : e.2 = x
          · rw [if_neg (by simp [qc, qx])] at HE
            have fc1 : (e.1 != c) = false := by simp [qc]
            have fc2 : (e.1 == c) = true := by simp [qc]
            have fx1 : (e.2 != x) = false := by simp [qx]
            have fx2 : (e.2 == x) = true := by simp [qx]
            clear f31 qc qx qa
            go_wp2_with fail
            go_roundw
            case rel => exact ⟨k + 1, by omega, by go_num, by rw [HE.out, List.append_nil]; exact HO.out.1, HO.out.2⟩
            case measure => simp [intOf]; omega
          · rw [if_pos (by simp [qx])] at HE
            have fc1 : (e.1 != c) = false := by simp [qc]
            have fc2 : (e.1 == c) = true := by simp [qc]
            have fx1 : (e.2 != x) = true := by simpa using qx
            have fx2 : (e.2 == x) = false := by simpa using qx
            clear f31 qc qx qa
            have HA5 := Lib.hid (HO.out.1.alloc (Obj.cells #[.int .i64 e.1, .int .i64 e.2] 63))
            have HN5 := Lib.hid (Holds.new wr #[.int .i64 e.1, .int .i64 e.2] 63)
            have hz5 := HO.out.2.size
            go_wp2_with (at_builtin; refine wpList_append_own _ rfl _ _ 28 rfl w.heap.size 63 i0 _ 2 16 Try.underlying28 hi hz0 hz1 hz2 rfl (by decide) _ _ _ rfl HA5.out ⟨wr.heap.size, 0, none⟩ 1 1 [.int .i64 e.1, .int .i64 e.2] rfl rfl (World.news_of_block HN5.out) (one_pair e) (by unfold maxLen; omega) (by omega) (by rw [World.size_alloc]; omega) ?_)
            intro v5 w5 hown5 hgrow5 _
            have hlt5 := HA5.out.lt
            have HF5 := Lib.hid (And.intro (show w5.ownsRow w.heap.size 63 2 v5 (O ++ [e]).length (pv (O ++ [e])) by rw [pv_snoc, List.length_append]; exact hown5) (((HO.out.2.alloc (Obj.cells #[.int .i64 e.1, .int .i64 e.2] 63)).nextN (gr_grownL hgrow5) (fun x hx => .inr (hlt5 x (by simpa using hx)).1))))
            clear hown5 hgrow5 hlt5 HA5 HN5 hz5
            go_wp2_with fail
            go_roundw
            case rel => exact ⟨k + 1, by omega, by go_num, by rw [HE.out]; exact HF5.out.1, HF5.out.2⟩
            case measure => simp [intOf]; omega
      · rw [if_pos (by simp [qc])] at HE
        have fc1 : (e.1 != c) = true := by simpa using qc
        have fc2 : (e.1 == c) = false := by simpa using qc
        clear qc
        have HA5 := Lib.hid (HO.out.1.alloc (Obj.cells #[.int .i64 e.1, .int .i64 e.2] 63))
        have HN5 := Lib.hid (Holds.new wr #[.int .i64 e.1, .int .i64 e.2] 63)
        have hz5 := HO.out.2.size
        go_wp2_with (at_builtin; refine wpList_append_own _ rfl _ _ 28 rfl w.heap.size 63 i0 _ 2 16 Try.underlying28 hi hz0 hz1 hz2 rfl (by decide) _ _ _ rfl HA5.out ⟨wr.heap.size, 0, none⟩ 1 1 [.int .i64 e.1, .int .i64 e.2] rfl rfl (World.news_of_block HN5.out) (one_pair e) (by unfold maxLen; omega) (by omega) (by rw [World.size_alloc]; omega) ?_)
        intro v5 w5 hown5 hgrow5 _
        have hlt5 := HA5.out.lt
        have HF5 := Lib.hid (And.intro (show w5.ownsRow w.heap.size 63 2 v5 (O ++ [e]).length (pv (O ++ [e])) by rw [pv_snoc, List.length_append]; exact hown5) (((HO.out.2.alloc (Obj.cells #[.int .i64 e.1, .int .i64 e.2] 63)).nextN (gr_grownL hgrow5) (fun x hx => .inr (hlt5 x (by simpa using hx)).1))))
        clear hown5 hgrow5 hlt5 HA5 HN5 hz5
        go_wp2_with fail
        go_roundw
        case rel => exact ⟨k + 1, by omega, by go_num, by rw [HE.out]; exact HF5.out.1, HF5.out.2⟩
        case measure => simp [intOf]; omega
    · obtain rfl : k = N := by omega
      have ik : ¬ ((k : Int) < (k : Int)) := by omega
      have HT := Lib.hid (show l.take k = l by rw [HN.out, List.take_length])
      clear ho g
      go_wp2
      go_ret
      refine ⟨_, rfl, ?_, HO.out.2⟩
      have q := HO.out.1
      rw [HT.out] at q
      exact q

end Go.Proofs.Ytlafmdpcabgcdaa
