/-
  Layer 18: the parts of a path, one by one (an iterator).
-/
import Derived.RangeFuncNested
import Derived.RangeFuncBound
import Derived.RangeFuncCalls
import Derived.RangeFuncLeaves
import Derived.RangeFuncBox
import Derived.Shelf.Abstract
import Derived.Shelf.RegionOpen
import Derived.WalkKit
import Derived.OwnWalkIn
import Derived.TacticsInMore
import Derived.LoopNIn
import Derived.LoopIn
import Derived.Maps.AppendAt
import Derived.Test.YtnmenihahgggmaaPaO
import Derived.Test.YtnmenihahgggmaaPaQ
import Derived.Test.YtnmenihahgggmaaPaS
namespace Go.Proofs.Ytnmenihahgggmaa
open Go.RowKit Go.Shelf

attribute [local go_sem] Oper.semAt_some

def leftV : Value → Value → Nat
  | .string b, .bool true => b.size + 1
  | _, _ => 0

set_option maxRecDepth 100000 in
set_option maxHeartbeats 4000000 in
theorem parts1_in (n : Nat) (hn : 1 ≤ n) (l Bn n₀ B0 : Nat) (s : List UInt8) (hs : s.length < 4294967280) (J Jx : List (List UInt8) → World → Prop) (hJ : AbidesFrom B0 J)
    (hY : ∀ pre x W, J pre W → pre.length < (partsP s).length → YieldAt Fence.wide (n - 1) Try.prog l #[.string (bsL x)] W fun e W' =>
      (e = .returned (.bool true) ∧ J (pre ++ [x]) W' ∧ Below n₀ W W') ∨ (e = .returned (.bool false) ∧ Jx (pre ++ [x]) W'))
    (W : World) (hBn : W.cell? ⟨Bn, 0, none⟩ = some (.string (bsL s))) (h0 : J [] W) :
    CallsIn Fence.wide n Try.prog 25 #[.func (.yield l) #[] #[], .pointer (some ⟨Bn, 0, none⟩)] W fun e W' => (∃ v, e = .returned v) ∧
      ((∃ ys, ys = partsP s ∧ J ys W') ∨ (∃ pre, pre <+: partsP s ∧ Jx pre W')) := by
  refine callsIn_of_wp Try.func25 rfl trivial ?_ rfl
  simp only [Try.ntmps25, List.size_toArray, List.length_cons, List.length_nil, Nat.reduceAdd, Nat.reduceSub, Array.replicate_succ, Array.replicate_zero, List.push_toArray, List.append_toArray, List.nil_append, List.cons_append]
  gi_wp2
  gi_loopw [3, 4, 5] (fun r m _ wr => ∃ (P : List (List UInt8)) (rest : List UInt8) (more : Bool), r = .string (bsL rest) ∧ m = .bool more ∧ pg [] s = P ++ (if more then pg [] rest else []) ∧ rest.length ≤ s.length ∧ J (P.filter keepP) wr)
    (fun r m _ _ => leftV r m)
  case atStart => exact ⟨[], s, true, rfl, rfl, by simp, Nat.le_refl _, h0⟩
  case round =>
    obtain ⟨P, rest, more, rfl, rfl, hpg, hrl, hj⟩ := hrel
    cases more with
    | false =>
      have hq : partsP s = P.filter keepP := by unfold partsP; rw [hpg]; simp
      gi_wp2
      go_end0
      exact ⟨⟨_, rfl⟩, .inl ⟨_, hq.symm, hj⟩⟩
    | true =>
      simp only [if_true] at hpg
      obtain ⟨a, b, m, w1, hcut, hst, hme, hbl, hj1⟩ : ∃ (a b : List UInt8) (m : Bool) (w1 : World), Calls Try.prog 26 #[.string (bsL rest), .string (bsL [47])] wr (fun e w' => e = .returned (.tuple #[.string (bsL a), .string (bsL b), .bool m]) ∧ w' = w1) ∧ pg [] s = (P ++ [a]) ++ (if m then pg [] b else []) ∧ leftV (.string (bsL b)) (.bool m) < leftV (.string (bsL rest)) (.bool true) ∧ b.length ≤ s.length ∧ J (P.filter keepP) w1 := by
        rcases first_cut rest with h | ⟨a, b, rfl, h⟩
        · exact ⟨rest, [], false, wr, cut_no rest wr h, by rw [hpg, pg_clean h]; simp, by show 0 < rest.length + 1; omega, by simp, hj⟩
        · simp at hrl
          refine ⟨a, b, true, wr.drew, cut_yes a b wr h (by omega), by rw [hpg, pg_cut h]; simp, ?_, by omega, hJ _ _ _ none hj ?_ (fun r e => by cases e)⟩
          · show (bsL b).size + 1 < (bsL (a ++ 47 :: b)).size + 1
            rw [bsL_size, bsL_size]; simp; omega
          · exact ⟨rfl, rfl, rfl, Nat.le_refl _, fun _ _ _ => rfl⟩
      have HC := Lib.hid hcut
      have HS := Lib.hid hst
      have HM := Lib.hid hme
      clear hcut hst hme hj hpg
      have hl := bsL_list a
      by_cases ha : keepP a = true
      · have hx : a ≠ [] ∧ a ≠ [46] := by simpa [keepP] using ha
        have HP := Lib.hid (show partsP s = P.filter keepP ++ a :: ((if m then pg [] b else []).filter keepP) by
          unfold partsP; rw [HS.out]; simp [ha])
        have HF := Lib.hid (show (P ++ [a]).filter keepP = P.filter keepP ++ [a] by simp [ha])
        obtain ⟨fn, tmps, assign, body, hy, hR⟩ := hY _ a w1 hj1 (by rw [HP.out]; simp)
        obtain ⟨hx1, hx2⟩ := hx
        have f0 : a.isEmpty = false := by simpa using hx1
        have f1 : (a == [46]) = false := by simpa using hx2
        gi_wp2_with (refine ⟨trivial, ?_⟩; gi_at_call 26; refine (callsIn_wide.2 HC.out).mono ?_; rintro e w' ⟨rfl, rfl⟩)
        refine hR.mono ?_
        rintro e W3 (⟨rfl, hJ3, hk3⟩ | ⟨rfl, hJx3⟩)
        · gi_wp2
          go_roundw
          case rel => exact ⟨P ++ [a], b, m, rfl, rfl, HS.out, hbl, by rw [HF.out]; exact hJ3⟩
          case measure => exact HM.out
        · gi_wp2
          refine bodyPost_ret (results_none rfl _ _ _) rfl ?_
          exact ⟨⟨_, rfl⟩, .inr ⟨P.filter keepP ++ [a], by rw [HP.out]; exact ⟨(if m then pg [] b else []).filter keepP, by simp⟩, hJx3⟩⟩
      · have hx : a = [] ∨ a = [46] := by
          simp [keepP] at ha
          by_cases h : a = []
          · exact .inl h
          · exact .inr (ha h)
        have HF := Lib.hid (show (P ++ [a]).filter keepP = P.filter keepP by simp [ha])
        rcases hx with rfl | rfl
        · gi_wp2_with (refine ⟨trivial, ?_⟩; gi_at_call 26; refine (callsIn_wide.2 HC.out).mono ?_; rintro e w' ⟨rfl, rfl⟩)
          refine ⟨fun _ h => (by cases h), ?_⟩
          gi_wp2
          go_roundw
          case rel => exact ⟨P ++ [[]], b, m, rfl, rfl, HS.out, hbl, by rw [HF.out]; exact hj1⟩
          case measure => exact HM.out
        · gi_wp2_with (refine ⟨trivial, ?_⟩; gi_at_call 26; refine (callsIn_wide.2 HC.out).mono ?_; rintro e w' ⟨rfl, rfl⟩)
          refine ⟨fun _ h => (by cases h), ?_⟩
          gi_wp2
          go_roundw
          case rel => exact ⟨P ++ [[46]], b, m, rfl, rfl, HS.out, hbl, by rw [HF.out]; exact hj1⟩
          case measure => exact HM.out

theorem parts_in (n : Nat) (s : List UInt8) (w : World) :
    CallsIn Fence.wide n Try.prog 18 #[.string (bsL s)] w fun e w' => e = .returned (.func (.func 25) #[] #[.pointer (some ⟨w.heap.size, 0, none⟩)]) ∧ w' = w.alloc (.cells #[.string (bsL s)] 9) := by
  refine callsIn_of_wp Try.func18 rfl trivial ?_ rfl
  simp only [Try.ntmps18, List.size_toArray, List.length_cons, List.length_nil, Nat.reduceAdd, Nat.reduceSub, Array.replicate_succ, Array.replicate_zero, List.push_toArray, List.append_toArray, List.nil_append, List.cons_append]
  gi_wp2
  go_ret
  exact ⟨rfl, rfl⟩
/-- What path.parts hands back visits the parts that lead somewhere. -/
theorem parts_stops (n : Nat) (hn : 1 ≤ n) (Bn n₀ : Nat) (s : List UInt8) (hs : s.length < 4294967280) (w : World) (hBn : Bn < w.heap.size) (hc : w.cell? ⟨Bn, 0, none⟩ = some (.string (bsL s))) :
    SeqStopsK Fence.wide n Try.prog 25 #[.pointer (some ⟨Bn, 0, none⟩)] (fun x : List UInt8 => #[Value.string (bsL x)]) (Below n₀) (fun ys => ys = partsP s) (fun pre => pre <+: partsP s) (partsP s).length w := fun l J Jx W hW hJ _ hY h0 =>
  parts1_in n hn l Bn n₀ _ s hs J Jx hJ hY W ((hW.cell (p := ⟨Bn, 0, none⟩) hBn).trans hc) h0

end Go.Proofs.Ytnmenihahgggmaa
