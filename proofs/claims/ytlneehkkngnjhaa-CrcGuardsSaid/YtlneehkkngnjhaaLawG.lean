/-
  The walk of CrcGuards.
-/
import Derived.Test.YtlneehkkngnjhaaSum3
namespace Go.Proofs.Ytlneehkkngnjhaa
open Go.RowKit

theorem and48 (x : Nat) (h : x < 18446744073709551616) : bits .and .u64 (x : Int) 281474976710655 = ((low48 x : Nat) : Int) := by
  have e := u64_and_nat x 281474976710655 h (by omega)
  unfold low48
  rw [show x % 281474976710656 = x &&& 281474976710655 from (Nat.and_two_pow_sub_one_eq_mod x 48).symm]
  exact e
theorem low48_lt (x : Nat) : low48 x < 281474976710656 := Nat.mod_lt _ (by omega)

set_option maxRecDepth 100000 in
set_option maxHeartbeats 2000000 in
theorem walk_CrcGuards (a0 a1 : Int) (w0 : (Lit.int .u64 a0).wf = true) (w1 : (Lit.int .u64 a1).wf = true) (w : World) :
    Calls Try.prog 9 #[.int .u64 a0, .int .u64 a1] w fun e w' => e = .returned (.bool true) ∧ Below w.heap.size w w' := by
  obtain ⟨n, rfl, hn⟩ := nat_u64 w0
  obtain ⟨m, rfl, hm⟩ := nat_u64 w1
  clear w0 w1
  have hg := guardN_lt n hn
  go_enter Try.func9, Try.ntmps9
  go_wp2_with fail
  refine (rguard n _ hn).mono ?_
  rintro e w1 ⟨rfl, hb1⟩
  have HRG := Lib.hid (fun w => rguard n w hn)
  have HGD := Lib.hid (fun w => guard_any n w hn)
  obtain ⟨G, hG⟩ : ∃ G, guardN n = G := ⟨_, rfl⟩
  have HRG2 := HRG.out
  have HGD2 := HGD.out
  rw [hG] at hg HRG2 HGD2 ⊢
  have HRG := Lib.hid HRG2
  have HGD := Lib.hid HGD2
  clear HRG2 HGD2
  clear hG
  go_wp2_with fail
  have X1 := Holds.new w1 #[Value.int IntKind.u64 m, Value.int IntKind.u64 G, Value.int IntKind.u64 n] 22
  have B1 := below_new hb1 (Obj.cells #[Value.int IntKind.u64 m, Value.int IntKind.u64 G, Value.int IntKind.u64 n] 22)
  clear hb1
  generalize w1.alloc (Obj.cells #[Value.int IntKind.u64 m, Value.int IntKind.u64 G, Value.int IntKind.u64 n] 22) = wa at *
  generalize w1.heap.size = gb at *
  go_loopw [16] (fun i wr => ∃ k : Nat, k ≤ 3 ∧ i = .int .i64 k ∧ Holds wr gb #[Value.int IntKind.u64 m, Value.int IntKind.u64 G, Value.int IntKind.u64 n] 22 ∧ Below w.heap.size w wr) (fun i _ => 3 - (intOf i).toNat)
  case atStart => exact ⟨0, by omega, rfl, X1, B1⟩
  case round =>
    clear X1 B1
    obtain ⟨k, hk, rfl, X1, B1⟩ := hrel
    by_cases hlt : k < 3
    · obtain ⟨x, hx, hxl⟩ : ∃ x : Nat, wr.cell? ⟨gb, k, none⟩ = some (.int .u64 (x : Int)) ∧ x < 18446744073709551616 := by
        have hc := X1.cell k
        have : k = 0 ∨ k = 1 ∨ k = 2 := by omega
        rcases this with rfl | rfl | rfl
        · exact ⟨m, hc, hm⟩
        · exact ⟨G, hc, hg⟩
        · exact ⟨n, hc, hn⟩
      have HC := Lib.hid (fun w => rguard x w hxl)
      by_cases hgx : guardN x = x
      · have hand := and48 x hxl
        have hl := low48_lt x
        have hb : ((guardN x : Int) == (x : Int)) = true := by simp [hgx]
        have HY := Lib.hid (fun w => guarded_yes x w hxl hgx)
        have HC2 := HC.out
        rw [hgx] at HC2
        have HC := Lib.hid HC2
        clear hgx hb HC2
        go_wp2_with fail
        refine (HY.out _).mono ?_
        rintro e w2 ⟨rfl, hb2⟩
        have X2 := X1.below hb2
        have B2 := below_next B1 hb2
        clear X1 B1 hb2 hx
        generalize low48 x = lo at *
        go_wp2_with fail
        refine (HC.out _).mono ?_
        rintro e w3 ⟨rfl, hb3⟩
        have RR := Lib.hid (And.intro (X2.below hb3) (below_next B2 hb3))
        clear X2 B2 hb3
        go_wp2
        go_roundw
        case rel => exact ⟨k + 1, by omega, by go_num, RR.out.1, RR.out.2⟩
        case measure => simp [intOf]; omega
      · have hb : ((guardN x : Int) == (x : Int)) = false := by simp; omega
        have HY := Lib.hid (fun w => guarded_no x w hxl hgx)
        have hgl := guardN_lt x hxl
        clear hgx
        generalize guardN x = gx at *
        go_wp2_with fail
        refine (HY.out _).mono ?_
        rintro e w2 ⟨rfl, hb2⟩
        have X2 := X1.below hb2
        have B2 := below_next B1 hb2
        clear X1 B1 hb2 hx
        go_wp2_with fail
        refine (HC.out _).mono ?_
        rintro e w3 ⟨rfl, hb3⟩
        have RR := Lib.hid (And.intro (X2.below hb3) (below_next B2 hb3))
        clear X2 B2 hb3
        go_wp2
        go_roundw
        case rel => exact ⟨k + 1, by omega, by go_num, RR.out.1, RR.out.2⟩
        case measure => simp [intOf]; omega
    · go_wp2_with fail
      refine (wakes2_any _).mono ?_
      rintro e w5 ⟨rfl, hb5⟩
      have B5 := below_next B1 hb5
      go_wp2_with fail
      refine (HGD.out _).mono ?_
      rintro e w6 ⟨rfl, hb6⟩
      have B6 := below_next B5 hb6
      go_wp2_with fail
      refine (HRG.out _).mono ?_
      rintro e w7 ⟨rfl, hb7⟩
      have HB := Lib.hid (below_next B6 hb7)
      clear B1 hb5 B5 hb6 B6 hb7 X1
      go_wp2_with fail
      go_ret
      exact ⟨rfl, HB.out⟩

end Go.Proofs.Ytlneehkkngnjhaa
