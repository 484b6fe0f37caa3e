/-
  The walks of layer 1's statements: each law's Go function returns true.
-/
import Derived.Test.YtlneehkkngnjhaaRefA
namespace Go.Proofs.Ytlneehkkngnjhaa
open Go.RowKit

set_option maxHeartbeats 800000 in
theorem wakes1_any (w : World) :
    Calls Try.prog 17 #[] w fun e w' => e = .returned (.bool true) ∧ Below w.heap.size w w' := by
  go_enter Try.func17, Try.ntmps17
  go_wp2_with fail
  refine (put_any 258 3 _ (by omega)).mono ?_
  rintro e w1 ⟨rfl, hg⟩
  rw [show putL 258 (clamp8 3) = [2, 1, 0] from by decide]
  go_wp2_with fail
  refine (get_any ⟨#[2, 1, 0]⟩ _ (by decide)).mono ?_
  rintro e w2 ⟨rfl, rfl⟩
  rw [show getL (List.take 8 (ByteArray.mk #[2, 1, 0]).data.toList) = 258 from by decide]
  go_wp2_with fail
  refine (field_any 258 8 8 _ (by omega) (by omega) (by omega)).mono ?_
  rintro e w2 ⟨rfl, rfl⟩
  rw [show fieldN 258 8 8 = 1 from by decide]
  go_wp2_with fail
  refine (with_any 0 8 8 1 _ (by omega) (by omega) (by omega)).mono ?_
  rintro e w2 ⟨rfl, rfl⟩
  rw [show withN 0 8 8 1 = 256 from by decide]
  go_wp2_with fail
  go_ret
  exact ⟨rfl, hg⟩

theorem bcell {W w1 : World} (hb : Below W.heap.size W w1) : (∀ b o, b < W.heap.size → w1.cell? ⟨b, o, none⟩ = W.cell? ⟨b, o, none⟩) ∧ (∀ b o, b < W.heap.size → w1.frozen? ⟨b, o, none⟩ = W.frozen? ⟨b, o, none⟩) :=
  ⟨fun b o h => hb.cell (p := ⟨b, o, none⟩) h, fun b o h => hb.frozen (p := ⟨b, o, none⟩) h⟩
theorem nat_u64 {a : Int} (h : (Lit.int .u64 a).wf = true) : ∃ n : Nat, a = n ∧ n < 18446744073709551616 := by
  have := bounds_u64 h
  exact ⟨a.toNat, by omega, by omega⟩

set_option maxHeartbeats 800000 in
theorem walk_LeBytes (a0 a1 : Int) (a2 : ByteArray) (w0 : (Lit.int .u64 a0).wf = true) (w1 : (Lit.int .i64 a1).wf = true) (w2_ : a2.size ≤ maxLen) (_ : a2.size ≤ reachBytes) (w : World) :
    Calls Try.prog 3 #[.int .u64 a0, .int .i64 a1, .string a2] w fun e w' => e = .returned (.bool true) ∧ Below w.heap.size w w' := by
  obtain ⟨n, rfl, hn⟩ := nat_u64 w0
  have hb := bounds_i64 w1
  clear w0 w1
  by_cases hs : 0 < a1
  all_goals
    go_enter Try.func3, Try.ntmps3
    go_wp2_with fail
    refine wp_loop_rounds 3 ?_
    rw [rounds_succ]
    go_wp2_with fail
    refine (put_any n _ _ hn).mono ?_
    rintro e w1 ⟨rfl, hb1⟩
    obtain ⟨hc1, hf1⟩ := bcell hb1
    have z1 : w.heap.size < w1.heap.size := by have := hb1.size; simp at this; omega
    go_wp2_with fail
    refine (rput_any n _ _ hn (by omega) (by omega)).mono ?_
    rintro e w2 ⟨rfl, hb2⟩
    obtain ⟨hc2, hf2⟩ := bcell hb2
    have z2 : w.heap.size < w2.heap.size := by have := hb2.size; omega
    go_wp2_with fail
    rw [rounds_succ]
    go_wp2_with fail
    refine (put_any n _ _ hn).mono ?_
    rintro e w3 ⟨rfl, hb3⟩
    go_wp2_with fail
    refine (rput_any n _ _ hn (by omega) (by omega)).mono ?_
    rintro e w4 ⟨rfl, hb4⟩
    go_wp2_with fail
    rw [rounds_succ]
    go_wp2_with fail
    refine (wakes1_any _).mono ?_
    rintro e w5 ⟨rfl, hb5⟩
    go_wp2_with fail
    refine (get_any _ _ w2_).mono ?_
    rintro e w6 ⟨rfl, rfl⟩
    go_wp2_with fail
    refine (rget_any _ _ w2_).mono ?_
    rintro e w7 ⟨rfl, rfl⟩
    go_wp2_with fail
    refine (put_any n _ _ hn).mono ?_
    rintro e w8 ⟨rfl, hb8⟩
    have e8 : clamp8 8 = 8 := rfl
    rw [e8]
    clear e8
    go_wp2_with fail
    refine (get_any _ _ (by simp [ByteArray.size, putL_length, maxLen])).mono ?_
    rintro e w9 ⟨rfl, rfl⟩
    have eg : getL (List.take 8 (ByteArray.mk (putL n 8).toArray).data.toList) = n := by
      have : (ByteArray.mk (putL n 8).toArray).data.toList = putL n 8 := by simp
      rw [this, List.take_of_length_le (by simp [putL_length]), getL_putL]
      exact Nat.mod_eq_of_lt hn
    rw [eg]
    clear eg
    go_wp2_with fail
    go_ret
    refine ⟨rfl, ?_⟩
    have k3 := hb3.size
    have k4 := hb4.size
    have k5 := hb5.size
    refine Below.trans ?_ (hb8.mono (by omega))
    refine Below.trans ?_ (hb5.mono (by omega))
    refine Below.trans ?_ (hb4.mono (by omega))
    refine Below.trans ?_ (hb3.mono (by omega))
    refine Below.trans ?_ (hb2.mono (by omega))
    refine Below.trans ?_ (hb1.mono (by simp))
    exact (Below.refl _ _).alloc (Nat.le_refl _) _

end Go.Proofs.Ytlneehkkngnjhaa
