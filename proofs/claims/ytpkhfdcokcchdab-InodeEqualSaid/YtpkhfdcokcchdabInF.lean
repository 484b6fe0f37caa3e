/-
  Layer 16: InodeNeeds, walked.
-/
import Derived.Test.YtpkhfdcokcchdabInE
namespace Go.Proofs.Ytpkhfdcokcchdab
open Go.RowKit

theorem need_is (x : Int) (n k : Nat) (w : World) (hx : x = (n : Int)) (h : n ≤ 1099511627776) (hk : k = (n + 63) / 64) :
    Calls Try.prog 19 #[.int .i64 x] w fun e w' => e = .returned (.int .i64 k) ∧ Gr [] w w' := by
  subst hx hk
  exact need_nat n w h
set_option maxHeartbeats 4000000 in
set_option maxRecDepth 20000 in
theorem inodeNeeds_any (s m : Nat) (w : World) (_hs : s < 4294967296) (hm : m < 65536) :
    Calls Try.prog 6 #[.int .u32 s, .int .u16 m] w fun e w' => e = .returned (.bool true) ∧ Below w.heap.size w w' := by
  obtain ⟨n, hn⟩ : ∃ n : Nat, n = s % 1073741824 := ⟨_, rfl⟩
  have e1 : (s : Int) % 1073741824 = (n : Int) := by omega
  have hnl : n < 1073741824 := by omega
  clear hn
  obtain ⟨k, hk⟩ : ∃ k : Nat, k = (n + 63) / 64 := ⟨_, rfl⟩
  obtain ⟨k2, hk2⟩ : ∃ k : Nat, k = (n + m + 63) / 64 := ⟨_, rfl⟩
  have hkl : k ≤ 16777216 := by omega
  have hk2l : k2 ≤ 16785000 := by omega
  have g1 : (n : Int) ≤ (k : Int) * 64 := by omega
  have g2 : ((k : Int) - 1) * 64 < (n : Int) := by omega
  have g3 : (k : Int) ≤ (k2 : Int) := by omega
  have g3b : k ≤ k2 := by omega
  have w1 : IntKind.i64.wrap (n : Int) = (n : Int) := IntWalk.i64_in _ (by omega)
  have w2 : IntKind.i64.wrap (m : Int) = (m : Int) := IntWalk.i64_in _ (by omega)
  have N1 := Lib.hid (fun W => need_is (n : Int) n k W rfl (by omega) hk)
  have N2 := Lib.hid (fun W => need_is ((n : Int) + (m : Int)) (n + m) k2 W (by omega) (by omega) hk2)
  have N3 := Lib.hid (fun W => need_is ((n : Int) + 64) (n + 64) (k + 1) W (by omega) (by omega) (by omega))
  clear hk hk2
  go_enter Try.func6, Try.ntmps6
  go_wp2_with fail
  with_reducible refine (N1.out _).mono ?_
  rintro e v1 ⟨rfl, a1⟩
  have HG1 := Lib.hid a1
  clear a1
  go_wp2_with fail
  with_reducible refine (wakes16_any _).mono ?_
  rintro e v2 ⟨rfl, a2⟩
  have HG2 := Lib.hid (HG1.out.next0 a2)
  clear a2
  go_wp2_with fail
  with_reducible refine (N2.out _).mono ?_
  rintro e v3 ⟨rfl, a3⟩
  have HG3 := Lib.hid (HG2.out.next0 a3)
  clear a3
  go_wp2_with fail
  with_reducible refine (N3.out _).mono ?_
  rintro e v4 ⟨rfl, a4⟩
  have HG4 := Lib.hid (HG3.out.next0 a4)
  clear a4
  go_wp2_with fail
  go_ret
  exact ⟨rfl, HG4.out.below0⟩
theorem walk_InodeNeeds (a0 a1 : Int) (w0 : (Lit.int .u32 a0).wf = true) (w1 : (Lit.int .u16 a1).wf = true) (w : World) :
    Calls Try.prog 6 #[.int .u32 a0, .int .u16 a1] w fun e w' => e = .returned (.bool true) ∧ Below w.heap.size w w' := by
  have h := bounds_u32 w0
  obtain ⟨m, rfl, hm⟩ := natU16 w1
  obtain ⟨s, rfl⟩ := Int.eq_ofNat_of_zero_le h.1
  exact inodeNeeds_any s m w (by omega) hm

end Go.Proofs.Ytpkhfdcokcchdab
