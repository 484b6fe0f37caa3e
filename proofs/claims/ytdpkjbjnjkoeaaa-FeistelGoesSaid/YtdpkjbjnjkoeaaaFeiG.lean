/-
  The walk of FeistelGoes.
-/
import Derived.Test.YtdpkjbjnjkoeaaaFeiY
namespace Go.Proofs.Ytdpkjbjnjkoeaaa
open Go.RowKit

set_option maxRecDepth 100000 in
set_option maxHeartbeats 8000000 in
theorem walk_FeistelGoes (a0 a1 a2 : Int) (w0 : (Lit.int .i64 a0).wf = true) (w1 : (Lit.int .u64 a1).wf = true) (w2 : (Lit.int .i64 a2).wf = true) (w : World) :
    Calls Try.prog 3 #[.int .i64 a0, .int .u64 a1, .int .i64 a2] w fun e w' => e = .returned (.bool true) ∧ Below w.heap.size w w' := by
  have hb0 := bounds_i64 w0
  have hb2 := bounds_i64 w2
  obtain ⟨key, rfl, hkey⟩ := natU64 w1
  clear w0 w1 w2
  have hm0 := max0 Try.prog
  have x0 := mx_nonneg a0
  have x2 := mx_nonneg a2
  obtain ⟨n2, hn2, hn21, hn22⟩ : ∃ n : Nat, 1 + mx a0 % 300 = (n : Int) ∧ 1 ≤ n ∧ n ≤ 300 := ⟨(1 + mx a0 % 300).toNat, by omega, by omega, by omega⟩
  have HK := Lib.hid hkey
  clear hkey
  go_enter Try.func3, Try.ntmps3
  go_wp2_with fail
  have S1 := Holds.new w #[Value.int IntKind.i64 a0, Value.int IntKind.i64 n2] 3
  have B1 := below_new (Below.refl _ w) (Obj.cells #[Value.int IntKind.i64 a0, Value.int IntKind.i64 n2] 3)
  generalize w.alloc (Obj.cells #[Value.int IntKind.i64 a0, Value.int IntKind.i64 n2] 3) = wa at *
  go_loopw [21] (fun i wr => ∃ c : Nat, c ≤ 2 ∧ i = .int .i64 c ∧ Holds wr w.heap.size #[Value.int IntKind.i64 a0, Value.int IntKind.i64 n2] 3 ∧ Below w.heap.size w wr) (fun i _ => 2 - (intOf i).toNat)
  case atStart => exact ⟨0, by omega, rfl, S1, B1⟩
  case round =>
    clear S1 B1
    obtain ⟨c, hc, rfl, S1, B1⟩ := hrel
    by_cases hlt : c < 2
    · obtain ⟨v, hv, hvb⟩ : ∃ v : Int, wr.cell? ⟨w.heap.size, c, none⟩ = some (.int .i64 v) ∧ (-9223372036854775808 ≤ v ∧ v ≤ 9223372036854775807) := by
        have : c = 0 ∨ c = 1 := by omega
        rcases this with rfl | rfl
        · exact ⟨a0, S1.cell 0, hb0⟩
        · exact ⟨n2, S1.cell 1, by omega⟩
      by_cases hbad : v < 1
      · skip
        have HNo := Lib.hid (fun w => new_no v key w (by omega))
        have HTo := Lib.hid (fun w => to_no 0 0 0 0 0 0 a2 w (by omega))
        have HV := Lib.hid hvb
        clear hvb
        go_wp2_with fail
        clear hv
        refine (HNo.out _).mono ?_
        rintro e w1 ⟨rfl, hbn⟩
        replace S1 := S1.below hbn
        replace B1 := below_next B1 hbn
        clear hbn
        have X1 := Holds.new w1 #[.int .i64 0, .int .i64 0, .int .u16 0, .int .u16 0, .int .u16 0, .int .u16 0] 27
        replace S1 := S1.alloc (Obj.cells #[.int .i64 0, .int .i64 0, .int .u16 0, .int .u16 0, .int .u16 0, .int .u16 0] 27)
        replace B1 := below_new B1 (Obj.cells #[.int .i64 0, .int .i64 0, .int .u16 0, .int .u16 0, .int .u16 0, .int .u16 0] 27)
        have p0 : (w1.alloc (Obj.cells #[.int .i64 0, .int .i64 0, .int .u16 0, .int .u16 0, .int .u16 0, .int .u16 0] 27)).cell? ⟨w1.heap.size, 0, none⟩ = some (.int .i64 0) := X1.cell 0
        have p1 : (w1.alloc (Obj.cells #[.int .i64 0, .int .i64 0, .int .u16 0, .int .u16 0, .int .u16 0, .int .u16 0] 27)).cell? ⟨w1.heap.size, 1, none⟩ = some (.int .i64 0) := X1.cell 1
        have p2 : (w1.alloc (Obj.cells #[.int .i64 0, .int .i64 0, .int .u16 0, .int .u16 0, .int .u16 0, .int .u16 0] 27)).cell? ⟨w1.heap.size, 2, none⟩ = some (.int .u16 0) := X1.cell 2
        have p3 : (w1.alloc (Obj.cells #[.int .i64 0, .int .i64 0, .int .u16 0, .int .u16 0, .int .u16 0, .int .u16 0] 27)).cell? ⟨w1.heap.size, 3, none⟩ = some (.int .u16 0) := X1.cell 3
        have p4 : (w1.alloc (Obj.cells #[.int .i64 0, .int .i64 0, .int .u16 0, .int .u16 0, .int .u16 0, .int .u16 0] 27)).cell? ⟨w1.heap.size, 4, none⟩ = some (.int .u16 0) := X1.cell 4
        have p5 : (w1.alloc (Obj.cells #[.int .i64 0, .int .i64 0, .int .u16 0, .int .u16 0, .int .u16 0, .int .u16 0] 27)).cell? ⟨w1.heap.size, 5, none⟩ = some (.int .u16 0) := X1.cell 5
        go_wp2_with fail
        generalize w1.alloc (Obj.cells #[.int .i64 0, .int .i64 0, .int .u16 0, .int .u16 0, .int .u16 0, .int .u16 0] 27) = wb at *
        generalize w1.heap.size = p at *
        clear p0 p1 p2 p3 p4 p5
        refine (HTo.out _).mono ?_
        rintro e w2 ⟨rfl, hbn⟩
        replace S1 := S1.below hbn
        replace X1 := X1.below hbn
        replace B1 := below_next B1 hbn
        clear hbn
        have p0 : w2.cell? ⟨p, 0, none⟩ = some (.int .i64 0) := X1.cell 0
        have p1 : w2.cell? ⟨p, 1, none⟩ = some (.int .i64 0) := X1.cell 1
        have p2 : w2.cell? ⟨p, 2, none⟩ = some (.int .u16 0) := X1.cell 2
        have p3 : w2.cell? ⟨p, 3, none⟩ = some (.int .u16 0) := X1.cell 3
        have p4 : w2.cell? ⟨p, 4, none⟩ = some (.int .u16 0) := X1.cell 4
        have p5 : w2.cell? ⟨p, 5, none⟩ = some (.int .u16 0) := X1.cell 5
        go_wp2_with fail
        clear p0 p1 p2 p3 p4 p5
        refine (size_any 0 0 0 0 0 0 _).mono ?_
        rintro e w3 ⟨rfl, hbn⟩
        replace S1 := S1.below hbn
        replace B1 := below_next B1 hbn
        clear hbn
        have RR := Lib.hid (And.intro S1 B1)
        clear S1 B1 X1
        go_wp2
        go_roundw
        case rel => exact ⟨c + 1, by omega, by go_num, RR.out.1, RR.out.2⟩
        case measure => simp [intOf]; omega
      · skip
        by_cases hbad2 : 8192 < v
        · skip
          have HNo := Lib.hid (fun w => new_no v key w (by omega))
          have HTo := Lib.hid (fun w => to_no 0 0 0 0 0 0 a2 w (by omega))
          have HV := Lib.hid hvb
          clear hvb
          go_wp2_with fail
          clear hv
          refine (HNo.out _).mono ?_
          rintro e w1 ⟨rfl, hbn⟩
          replace S1 := S1.below hbn
          replace B1 := below_next B1 hbn
          clear hbn
          have X1 := Holds.new w1 #[.int .i64 0, .int .i64 0, .int .u16 0, .int .u16 0, .int .u16 0, .int .u16 0] 27
          replace S1 := S1.alloc (Obj.cells #[.int .i64 0, .int .i64 0, .int .u16 0, .int .u16 0, .int .u16 0, .int .u16 0] 27)
          replace B1 := below_new B1 (Obj.cells #[.int .i64 0, .int .i64 0, .int .u16 0, .int .u16 0, .int .u16 0, .int .u16 0] 27)
          have p0 : (w1.alloc (Obj.cells #[.int .i64 0, .int .i64 0, .int .u16 0, .int .u16 0, .int .u16 0, .int .u16 0] 27)).cell? ⟨w1.heap.size, 0, none⟩ = some (.int .i64 0) := X1.cell 0
          have p1 : (w1.alloc (Obj.cells #[.int .i64 0, .int .i64 0, .int .u16 0, .int .u16 0, .int .u16 0, .int .u16 0] 27)).cell? ⟨w1.heap.size, 1, none⟩ = some (.int .i64 0) := X1.cell 1
          have p2 : (w1.alloc (Obj.cells #[.int .i64 0, .int .i64 0, .int .u16 0, .int .u16 0, .int .u16 0, .int .u16 0] 27)).cell? ⟨w1.heap.size, 2, none⟩ = some (.int .u16 0) := X1.cell 2
          have p3 : (w1.alloc (Obj.cells #[.int .i64 0, .int .i64 0, .int .u16 0, .int .u16 0, .int .u16 0, .int .u16 0] 27)).cell? ⟨w1.heap.size, 3, none⟩ = some (.int .u16 0) := X1.cell 3
          have p4 : (w1.alloc (Obj.cells #[.int .i64 0, .int .i64 0, .int .u16 0, .int .u16 0, .int .u16 0, .int .u16 0] 27)).cell? ⟨w1.heap.size, 4, none⟩ = some (.int .u16 0) := X1.cell 4
          have p5 : (w1.alloc (Obj.cells #[.int .i64 0, .int .i64 0, .int .u16 0, .int .u16 0, .int .u16 0, .int .u16 0] 27)).cell? ⟨w1.heap.size, 5, none⟩ = some (.int .u16 0) := X1.cell 5
          go_wp2_with fail
          generalize w1.alloc (Obj.cells #[.int .i64 0, .int .i64 0, .int .u16 0, .int .u16 0, .int .u16 0, .int .u16 0] 27) = wb at *
          generalize w1.heap.size = p at *
          clear p0 p1 p2 p3 p4 p5
          refine (HTo.out _).mono ?_
          rintro e w2 ⟨rfl, hbn⟩
          replace S1 := S1.below hbn
          replace X1 := X1.below hbn
          replace B1 := below_next B1 hbn
          clear hbn
          have p0 : w2.cell? ⟨p, 0, none⟩ = some (.int .i64 0) := X1.cell 0
          have p1 : w2.cell? ⟨p, 1, none⟩ = some (.int .i64 0) := X1.cell 1
          have p2 : w2.cell? ⟨p, 2, none⟩ = some (.int .u16 0) := X1.cell 2
          have p3 : w2.cell? ⟨p, 3, none⟩ = some (.int .u16 0) := X1.cell 3
          have p4 : w2.cell? ⟨p, 4, none⟩ = some (.int .u16 0) := X1.cell 4
          have p5 : w2.cell? ⟨p, 5, none⟩ = some (.int .u16 0) := X1.cell 5
          go_wp2_with fail
          clear p0 p1 p2 p3 p4 p5
          refine (size_any 0 0 0 0 0 0 _).mono ?_
          rintro e w3 ⟨rfl, hbn⟩
          replace S1 := S1.below hbn
          replace B1 := below_next B1 hbn
          clear hbn
          have RR := Lib.hid (And.intro S1 B1)
          clear S1 B1 X1
          go_wp2
          go_roundw
          case rel => exact ⟨c + 1, by omega, by go_num, RR.out.1, RR.out.2⟩
          case measure => simp [intOf]; omega
        · skip
          obtain ⟨n, rfl⟩ := Int.eq_ofNat_of_zero_le (show 0 ≤ v by omega)
          have hn1 : 1 ≤ n := by omega
          have hn8 : n ≤ 8192 := by omega
          obtain ⟨hh1, hh2, hh3⟩ := halfN_b n hn8
          have kk := k4 (keyN key 0) (keyN key 1) (keyN key 2) (keyN key 3) (keyN_lt _ _) (keyN_lt _ _) (keyN_lt _ _) (keyN_lt _ _)
          obtain ⟨T, hT⟩ : ∃ T, T = goes (halfN n) (kl key) n := ⟨_, rfl⟩
          have HNew := Lib.hid (fun (w : World) => new_yes n key w hn1 hn8 HK.out)
          have HTo := Lib.hid (fun (i : Nat) (w : World) (hi : i < n) => to_yes n (halfN n) (keyN key 0) (keyN key 1) (keyN key 2) (keyN key 3) i (T i) w hh1 hh2 kk hi hh3 hn8 (by rw [hT]; exact goes_to _ _ _ _ hi hh3))
          have HFrom := Lib.hid (fun (i : Nat) (w : World) (hi : i < n) => from_yes n (halfN n) (keyN key 0) (keyN key 1) (keyN key 2) (keyN key 3) (T i) i w hh1 hh2 kk (by rw [hT]; exact goes_lt _ _ _ _ hi hh3) hh3 hn8 (by rw [hT]; exact FB_rev hi hh3 (goes_to _ _ _ _ hi hh3)))
          have HRef := Lib.hid (fun (i : Nat) (w : World) (hi : i < n) => rto n key i (T i) w hn1 hn8 HK.out hi (by rw [hT]; exact goes_to _ _ _ _ hi hh3))
          clear hT kk hh1 hh2 hh3
          generalize halfN n = H at *
          generalize keyN key 0 = q0 at *
          generalize keyN key 1 = q1 at *
          generalize keyN key 2 = q2 at *
          generalize keyN key 3 = q3 at *
          have HV := Lib.hid hvb
          clear hvb
          go_wp2_with fail
          clear hv
          refine (HNew.out _).mono ?_
          rintro e w1 ⟨rfl, hbn⟩
          replace S1 := S1.below hbn
          replace B1 := below_next B1 hbn
          clear hbn
          have X1 := Holds.new w1 #[.int .i64 n, .int .i64 H, .int .u16 q0, .int .u16 q1, .int .u16 q2, .int .u16 q3] 27
          replace S1 := S1.alloc (Obj.cells #[.int .i64 n, .int .i64 H, .int .u16 q0, .int .u16 q1, .int .u16 q2, .int .u16 q3] 27)
          replace B1 := below_new B1 (Obj.cells #[.int .i64 n, .int .i64 H, .int .u16 q0, .int .u16 q1, .int .u16 q2, .int .u16 q3] 27)
          have p0 : (w1.alloc (Obj.cells #[.int .i64 n, .int .i64 H, .int .u16 q0, .int .u16 q1, .int .u16 q2, .int .u16 q3] 27)).cell? ⟨w1.heap.size, 0, none⟩ = some (.int .i64 n) := X1.cell 0
          have p1 : (w1.alloc (Obj.cells #[.int .i64 n, .int .i64 H, .int .u16 q0, .int .u16 q1, .int .u16 q2, .int .u16 q3] 27)).cell? ⟨w1.heap.size, 1, none⟩ = some (.int .i64 H) := X1.cell 1
          have p2 : (w1.alloc (Obj.cells #[.int .i64 n, .int .i64 H, .int .u16 q0, .int .u16 q1, .int .u16 q2, .int .u16 q3] 27)).cell? ⟨w1.heap.size, 2, none⟩ = some (.int .u16 q0) := X1.cell 2
          have p3 : (w1.alloc (Obj.cells #[.int .i64 n, .int .i64 H, .int .u16 q0, .int .u16 q1, .int .u16 q2, .int .u16 q3] 27)).cell? ⟨w1.heap.size, 3, none⟩ = some (.int .u16 q1) := X1.cell 3
          have p4 : (w1.alloc (Obj.cells #[.int .i64 n, .int .i64 H, .int .u16 q0, .int .u16 q1, .int .u16 q2, .int .u16 q3] 27)).cell? ⟨w1.heap.size, 4, none⟩ = some (.int .u16 q2) := X1.cell 4
          have p5 : (w1.alloc (Obj.cells #[.int .i64 n, .int .i64 H, .int .u16 q0, .int .u16 q1, .int .u16 q2, .int .u16 q3] 27)).cell? ⟨w1.heap.size, 5, none⟩ = some (.int .u16 q3) := X1.cell 5
          go_wp2_with fail
          generalize w1.alloc (Obj.cells #[.int .i64 n, .int .i64 H, .int .u16 q0, .int .u16 q1, .int .u16 q2, .int .u16 q3] 27) = wb at *
          generalize w1.heap.size = p at *
          clear p0 p1 p2 p3 p4 p5
          refine (size_any n H q0 q1 q2 q3 _).mono ?_
          rintro e w2 ⟨rfl, hbn⟩
          replace S1 := S1.below hbn
          replace X1 := X1.below hbn
          replace B1 := below_next B1 hbn
          clear hbn
          have p0 : w2.cell? ⟨p, 0, none⟩ = some (.int .i64 n) := X1.cell 0
          have p1 : w2.cell? ⟨p, 1, none⟩ = some (.int .i64 H) := X1.cell 1
          have p2 : w2.cell? ⟨p, 2, none⟩ = some (.int .u16 q0) := X1.cell 2
          have p3 : w2.cell? ⟨p, 3, none⟩ = some (.int .u16 q1) := X1.cell 3
          have p4 : w2.cell? ⟨p, 4, none⟩ = some (.int .u16 q2) := X1.cell 4
          have p5 : w2.cell? ⟨p, 5, none⟩ = some (.int .u16 q3) := X1.cell 5
          go_wp2_with fail
          clear p0 p1 p2 p3 p4 p5
          refine (to_no n H q0 q1 q2 q3 n _ (by omega)).mono ?_
          rintro e w3 ⟨rfl, hbn⟩
          replace S1 := S1.below hbn
          replace X1 := X1.below hbn
          replace B1 := below_next B1 hbn
          clear hbn
          have p0 : w3.cell? ⟨p, 0, none⟩ = some (.int .i64 n) := X1.cell 0
          have p1 : w3.cell? ⟨p, 1, none⟩ = some (.int .i64 H) := X1.cell 1
          have p2 : w3.cell? ⟨p, 2, none⟩ = some (.int .u16 q0) := X1.cell 2
          have p3 : w3.cell? ⟨p, 3, none⟩ = some (.int .u16 q1) := X1.cell 3
          have p4 : w3.cell? ⟨p, 4, none⟩ = some (.int .u16 q2) := X1.cell 4
          have p5 : w3.cell? ⟨p, 5, none⟩ = some (.int .u16 q3) := X1.cell 5
          go_wp2_with fail
          clear p0 p1 p2 p3 p4 p5
          refine (to_no n H q0 q1 q2 q3 (-1) _ (by omega)).mono ?_
          rintro e w4 ⟨rfl, hbn⟩
          replace S1 := S1.below hbn
          replace X1 := X1.below hbn
          replace B1 := below_next B1 hbn
          clear hbn
          have p0 : w4.cell? ⟨p, 0, none⟩ = some (.int .i64 n) := X1.cell 0
          have p1 : w4.cell? ⟨p, 1, none⟩ = some (.int .i64 H) := X1.cell 1
          have p2 : w4.cell? ⟨p, 2, none⟩ = some (.int .u16 q0) := X1.cell 2
          have p3 : w4.cell? ⟨p, 3, none⟩ = some (.int .u16 q1) := X1.cell 3
          have p4 : w4.cell? ⟨p, 4, none⟩ = some (.int .u16 q2) := X1.cell 4
          have p5 : w4.cell? ⟨p, 5, none⟩ = some (.int .u16 q3) := X1.cell 5
          go_wp2_with fail
          clear p0 p1 p2 p3 p4 p5
          refine (from_no n H q0 q1 q2 q3 n _ (by omega)).mono ?_
          rintro e w5 ⟨rfl, hbn⟩
          replace S1 := S1.below hbn
          replace X1 := X1.below hbn
          replace B1 := below_next B1 hbn
          clear hbn
          have p0 : w5.cell? ⟨p, 0, none⟩ = some (.int .i64 n) := X1.cell 0
          have p1 : w5.cell? ⟨p, 1, none⟩ = some (.int .i64 H) := X1.cell 1
          have p2 : w5.cell? ⟨p, 2, none⟩ = some (.int .u16 q0) := X1.cell 2
          have p3 : w5.cell? ⟨p, 3, none⟩ = some (.int .u16 q1) := X1.cell 3
          have p4 : w5.cell? ⟨p, 4, none⟩ = some (.int .u16 q2) := X1.cell 4
          have p5 : w5.cell? ⟨p, 5, none⟩ = some (.int .u16 q3) := X1.cell 5
          go_wp2_with fail
          clear p0 p1 p2 p3 p4 p5
          obtain ⟨xa, hxa, hxa2⟩ : ∃ xa : Nat, mx a2 % (n : Int) = (xa : Int) ∧ xa < n := by
            have q1 := Int.emod_nonneg (mx a2) (show (n : Int) ≠ 0 by omega)
            have q2 := Int.emod_lt_of_pos (mx a2) (show 0 < (n : Int) by omega)
            exact ⟨(mx a2 % (n : Int)).toNat, by omega, by omega⟩
          obtain ⟨xb, hxb, hxb2⟩ : ∃ xb : Nat, (n : Int) - 1 = (xb : Int) ∧ xb < n := ⟨n - 1, by omega, by omega⟩
          refine (from_no n H q0 q1 q2 q3 (-1) _ (by omega)).mono ?_
          rintro e w6 ⟨rfl, hbn⟩
          replace S1 := S1.below hbn
          replace X1 := X1.below hbn
          replace B1 := below_next B1 hbn
          clear hbn
          have n0 : (n : Int) ≠ 0 := by omega
          go_wp2_with fail
          have S3 := Holds.new w6 #[Value.int IntKind.i64 xa, Value.int IntKind.i64 0, Value.int IntKind.i64 xb] 3
          replace S1 := S1.alloc (Obj.cells #[Value.int IntKind.i64 xa, Value.int IntKind.i64 0, Value.int IntKind.i64 xb] 3)
          replace X1 := X1.alloc (Obj.cells #[Value.int IntKind.i64 xa, Value.int IntKind.i64 0, Value.int IntKind.i64 xb] 3)
          replace B1 := below_new B1 (Obj.cells #[Value.int IntKind.i64 xa, Value.int IntKind.i64 0, Value.int IntKind.i64 xb] 3)
          generalize w6.alloc (Obj.cells #[Value.int IntKind.i64 xa, Value.int IntKind.i64 0, Value.int IntKind.i64 xb] 3) = wc at *
          generalize w6.heap.size = s3 at *
          have HX := Lib.hid (And.intro hxa hxb)
          clear hxa hxb
          go_loopw [88] (fun i wr => ∃ d : Nat, d ≤ 3 ∧ i = .int .i64 d ∧ Holds wr w.heap.size #[Value.int IntKind.i64 a0, Value.int IntKind.i64 n2] 3 ∧ Holds wr p #[.int .i64 n, .int .i64 H, .int .u16 q0, .int .u16 q1, .int .u16 q2, .int .u16 q3] 27 ∧ Holds wr s3 #[Value.int IntKind.i64 xa, Value.int IntKind.i64 0, Value.int IntKind.i64 xb] 3 ∧ Below w.heap.size w wr) (fun i _ => 3 - (intOf i).toNat)
          case atStart => exact ⟨0, by omega, rfl, S1, X1, S3, B1⟩
          case round =>
            clear S1 X1 S3 B1
            rename_i wo _
            obtain ⟨d, hd, rfl, S1, X1, S3, B1⟩ := hrel
            by_cases hlt3 : d < 3
            · obtain ⟨x, hx, hxn⟩ : ∃ x : Nat, wr.cell? ⟨s3, d, none⟩ = some (.int .i64 (x : Int)) ∧ x < n := by
                have : d = 0 ∨ d = 1 ∨ d = 2 := by omega
                rcases this with rfl | rfl | rfl
                · exact ⟨xa, S3.cell 0, hxa2⟩
                · exact ⟨0, S3.cell 1, by omega⟩
                · exact ⟨xb, S3.cell 2, hxb2⟩
              have HC1 := Lib.hid (fun w => HRef.out x w hxn)
              have HC2 := Lib.hid (fun w => HTo.out x w hxn)
              have HC3 := Lib.hid (fun w => HFrom.out x w hxn)
              generalize T x = tx at *
              go_wp2_with fail
              clear hx
              refine (HC1.out _).mono ?_
              rintro e w7 ⟨rfl, rfl⟩
              have p0 : wr.cell? ⟨p, 0, none⟩ = some (.int .i64 n) := X1.cell 0
              have p1 : wr.cell? ⟨p, 1, none⟩ = some (.int .i64 H) := X1.cell 1
              have p2 : wr.cell? ⟨p, 2, none⟩ = some (.int .u16 q0) := X1.cell 2
              have p3 : wr.cell? ⟨p, 3, none⟩ = some (.int .u16 q1) := X1.cell 3
              have p4 : wr.cell? ⟨p, 4, none⟩ = some (.int .u16 q2) := X1.cell 4
              have p5 : wr.cell? ⟨p, 5, none⟩ = some (.int .u16 q3) := X1.cell 5
              go_wp2_with fail
              clear p0 p1 p2 p3 p4 p5
              refine (HC2.out _).mono ?_
              rintro e w8 ⟨rfl, hbn⟩
              replace S1 := S1.below hbn
              replace X1 := X1.below hbn
              replace S3 := S3.below hbn
              replace B1 := below_next B1 hbn
              clear hbn
              have p0 : w8.cell? ⟨p, 0, none⟩ = some (.int .i64 n) := X1.cell 0
              have p1 : w8.cell? ⟨p, 1, none⟩ = some (.int .i64 H) := X1.cell 1
              have p2 : w8.cell? ⟨p, 2, none⟩ = some (.int .u16 q0) := X1.cell 2
              have p3 : w8.cell? ⟨p, 3, none⟩ = some (.int .u16 q1) := X1.cell 3
              have p4 : w8.cell? ⟨p, 4, none⟩ = some (.int .u16 q2) := X1.cell 4
              have p5 : w8.cell? ⟨p, 5, none⟩ = some (.int .u16 q3) := X1.cell 5
              go_wp2_with fail
              clear p0 p1 p2 p3 p4 p5
              refine (HC3.out _).mono ?_
              rintro e w9 ⟨rfl, hbn⟩
              replace S1 := S1.below hbn
              replace X1 := X1.below hbn
              replace S3 := S3.below hbn
              replace B1 := below_next B1 hbn
              clear hbn
              have RR := Lib.hid (And.intro S1 (And.intro X1 (And.intro S3 B1)))
              clear S1 X1 S3 B1
              go_wp2
              go_roundw
              case rel => exact ⟨d + 1, by omega, by go_num, RR.out.1, RR.out.2.1, RR.out.2.2.1, RR.out.2.2.2⟩
              case measure => simp [intOf]; omega
            · obtain rfl : d = 3 := by omega
              have RR := Lib.hid (And.intro S1 B1)
              clear S1 X1 S3 B1
              go_wp2
              go_roundw
              case rel => exact ⟨c + 1, by omega, by go_num, RR.out.1, RR.out.2⟩
              case measure => simp [intOf]; omega
    · have HB := Lib.hid B1
      clear S1 B1
      go_wp2_with fail
      refine (wakes8_any _).mono ?_
      rintro e w9 ⟨rfl, hb9⟩
      go_wp2_with fail
      go_ret
      exact ⟨rfl, below_next HB.out hb9⟩

end Go.Proofs.Ytdpkjbjnjkoeaaa
