/-
  PjBd: FeiN, FlL.
-/
import Derived.Test.YtjbhallhmnahbaaGreatPjBc
import Derived.Test.YtjbhallhmnahbaaGreatPjAi
import Derived.Test.YtjbhallhmnahbaaGreatPjAz
import Derived.Test.YtjbhallhmnahbaaGreatPjBb

set_option linter.unusedVariables false

/-
  New, To, From, Size.
-/
namespace Go.Proofs.YtjbhallhmnahbaaGreat
open Go.RowKit

set_option maxHeartbeats 1000000 in
theorem to_yes (sz h a b c d i j : Nat) (w : World) (h1 : 1 ≤ h) (h2 : h ≤ 7) (hk : keys4 a b c d) (hi : i < sz) (hs : sz ≤ 2 ^ h * 2 ^ h) (hs2 : sz ≤ 8192) (hf : FB (turnN h [a, b, c, d]) sz i j) :
    Calls Tryz.prog 112 #[.agg #[.int .i64 sz, .int .i64 h, .int .u16 a, .int .u16 b, .int .u16 c, .int .u16 d], .int .i64 i] w fun e w' =>
      e = .returned (.int .i64 j) ∧ Below w.heap.size w w' := by
  have HC := Lib.hid (fun (w : World) => walkT sz h a b c d i j w h1 h2 hk hi hs hs2 hf)
  clear h1 h2 hk hi hs hs2 hf
  go_enter Tryz.func112, Tryz.ntmps112
  go_wp2_with fail
  refine (HC.out _).mono ?_
  rintro e w1 ⟨rfl, hb1⟩
  have HB := Lib.hid (below_next (below_new (Below.refl _ w) _) hb1)
  clear hb1
  go_wp2_with fail
  go_ret
  exact ⟨rfl, HB.out⟩
/-! ### New -/
def halfN (m : Nat) : Nat := if m ≤ 4 then 1 else if m ≤ 16 then 2 else if m ≤ 64 then 3 else if m ≤ 256 then 4 else if m ≤ 1024 then 5 else if m ≤ 4096 then 6 else 7
def keyN (key j : Nat) : Nat := key / 65536 ^ j % 65536
theorem halfN_b (m : Nat) (h : m ≤ 8192) : 1 ≤ halfN m ∧ halfN m ≤ 7 ∧ m ≤ 2 ^ halfN m * 2 ^ halfN m := by
  unfold halfN
  by_cases c1 : m ≤ 4
  · rw [if_pos c1]; exact ⟨by omega, by omega, by omega⟩
  rw [if_neg c1]
  by_cases c2 : m ≤ 16
  · rw [if_pos c2]; exact ⟨by omega, by omega, by omega⟩
  rw [if_neg c2]
  by_cases c3 : m ≤ 64
  · rw [if_pos c3]; exact ⟨by omega, by omega, by omega⟩
  rw [if_neg c3]
  by_cases c4 : m ≤ 256
  · rw [if_pos c4]; exact ⟨by omega, by omega, by omega⟩
  rw [if_neg c4]
  by_cases c5 : m ≤ 1024
  · rw [if_pos c5]; exact ⟨by omega, by omega, by omega⟩
  rw [if_neg c5]
  by_cases c6 : m ≤ 4096
  · rw [if_pos c6]; exact ⟨by omega, by omega, by omega⟩
  rw [if_neg c6]
  exact ⟨by omega, by omega, by omega⟩
theorem halfN_lt (m k : Nat) (h1 : 1 ≤ k) (h7 : k < 7) (h : 2 ^ (2 * k) < m) : k < halfN m := by
  have hc : k = 1 ∨ k = 2 ∨ k = 3 ∨ k = 4 ∨ k = 5 ∨ k = 6 := by omega
  unfold halfN
  rcases hc with rfl | rfl | rfl | rfl | rfl | rfl
  all_goals
    simp only [Nat.reduceMul, Nat.reducePow] at h
    repeat' split
    all_goals omega
theorem halfN_ge (m k : Nat) (hm : m ≤ 8192) (h1 : 1 ≤ k) (h7 : k ≤ 7) (h : ¬ 2 ^ (2 * k) < m) : halfN m ≤ k := by
  have hc : k = 1 ∨ k = 2 ∨ k = 3 ∨ k = 4 ∨ k = 5 ∨ k = 6 ∨ k = 7 := by omega
  unfold halfN
  rcases hc with rfl | rfl | rfl | rfl | rfl | rfl | rfl
  all_goals
    simp only [Nat.reduceMul, Nat.reducePow] at h
    repeat' split
    all_goals omega
theorem keyN_lt (key j : Nat) : keyN key j < 65536 := Nat.mod_lt _ (by omega)
theorem field_key (key j : Nat) (hj : j < 4) : fieldN key (16 * (j : Int)) 16 = keyN key j := by
  unfold fieldN keyN
  have h : okF (16 * (j : Int)) 16 := by unfold okF; omega
  rw [if_pos h]
  have e : (16 * (j : Int)).toNat = 16 * j := by omega
  have e2 : (65536 : Nat) ^ j = 2 ^ (16 * j) := by rw [Nat.pow_mul]
  rw [e, e2]
  rfl

set_option maxRecDepth 20000 in
set_option maxHeartbeats 2000000 in
theorem new_yes (m key : Nat) (w : World) (h1 : 1 ≤ m) (h2 : m ≤ 8192) (hkey : key < 18446744073709551616) :
    Calls Tryz.prog 58 #[.int .i64 m, .int .u64 key] w fun e w' =>
      e = .returned (.tuple #[.agg #[.int .i64 m, .int .i64 (halfN m : Nat), .int .u16 (keyN key 0 : Nat), .int .u16 (keyN key 1 : Nat), .int .u16 (keyN key 2 : Nat), .int .u16 (keyN key 3 : Nat)], .int .i64 0]) ∧ Below w.heap.size w w' := by
  have HF := Lib.hid (fun (j : Nat) (w : World) (hj : j < 4) => field_any key (16 * (j : Int)) 16 w hkey (by omega) (by omega))
  go_enter Tryz.func58, Tryz.ntmps58
  go_wp2_with fail
  have hd1 : decide ((m : Int) < 1) = false := by simpa using (show ¬ (m : Int) < 1 by omega)
  have hd2 : decide ((8192 : Int) < (m : Int)) = false := by simpa using (show ¬ (8192 : Int) < (m : Int) by omega)
  have Y1 := Holds.new w #[Value.int IntKind.i64 0, Value.int IntKind.i64 0, Value.int IntKind.u16 0, Value.int IntKind.u16 0, Value.int IntKind.u16 0, Value.int IntKind.u16 0] 127
  have B1 := below_new (Below.refl _ w) (Obj.cells #[Value.int IntKind.i64 0, Value.int IntKind.i64 0, Value.int IntKind.u16 0, Value.int IntKind.u16 0, Value.int IntKind.u16 0, Value.int IntKind.u16 0] 127)
  have X1 := Holds.new (w.alloc (Obj.cells #[Value.int IntKind.i64 0, Value.int IntKind.i64 0, Value.int IntKind.u16 0, Value.int IntKind.u16 0, Value.int IntKind.u16 0, Value.int IntKind.u16 0] 127)) #[Value.int IntKind.i64 m, Value.int IntKind.i64 1, Value.int IntKind.u16 0, Value.int IntKind.u16 0, Value.int IntKind.u16 0, Value.int IntKind.u16 0] 127
  have Y2 := Y1.alloc (Obj.cells #[Value.int IntKind.i64 m, Value.int IntKind.i64 1, Value.int IntKind.u16 0, Value.int IntKind.u16 0, Value.int IntKind.u16 0, Value.int IntKind.u16 0] 127)
  have B2 := below_new B1 (Obj.cells #[Value.int IntKind.i64 m, Value.int IntKind.i64 1, Value.int IntKind.u16 0, Value.int IntKind.u16 0, Value.int IntKind.u16 0, Value.int IntKind.u16 0] 127)
  clear Y1 B1
  generalize hwa : (w.alloc (Obj.cells #[Value.int IntKind.i64 0, Value.int IntKind.i64 0, Value.int IntKind.u16 0, Value.int IntKind.u16 0, Value.int IntKind.u16 0, Value.int IntKind.u16 0] 127)).alloc (Obj.cells #[Value.int IntKind.i64 m, Value.int IntKind.i64 1, Value.int IntKind.u16 0, Value.int IntKind.u16 0, Value.int IntKind.u16 0, Value.int IntKind.u16 0] 127) = wa at *
  clear hwa
  rw [show (w.alloc (Obj.cells #[Value.int IntKind.i64 0, Value.int IntKind.i64 0, Value.int IntKind.u16 0, Value.int IntKind.u16 0, Value.int IntKind.u16 0, Value.int IntKind.u16 0] 127)).heap.size = w.heap.size + 1 by simp] at X1
  have hz := halfN_b m h2
  have HZ := Lib.hid hz
  clear hz
  go_loopg [] 6 (fun n wr => ∃ (k : Nat), n + k = 7 ∧ 1 ≤ k ∧ k ≤ halfN m ∧ Holds wr (w.heap.size + 1) #[Value.int IntKind.i64 m, Value.int IntKind.i64 k, Value.int IntKind.u16 0, Value.int IntKind.u16 0, Value.int IntKind.u16 0, Value.int IntKind.u16 0] 127 ∧ Holds wr w.heap.size #[Value.int IntKind.i64 0, Value.int IntKind.i64 0, Value.int IntKind.u16 0, Value.int IntKind.u16 0, Value.int IntKind.u16 0, Value.int IntKind.u16 0] 127 ∧ Below w.heap.size w wr)
  case atStart => exact ⟨1, by omega, by omega, HZ.out.1, X1, Y2, B2⟩
  case round =>
    clear X1 Y2 B2
    obtain ⟨k, hnk, hk1, hk2, X1, Y1, B1⟩ := hrel
    have hk7 : k ≤ 7 := by omega
    obtain ⟨c0, c1⟩ : wr.cell? ⟨w.heap.size + 1, 0, none⟩ = some (.int .i64 m) ∧ wr.cell? ⟨w.heap.size + 1, 1, none⟩ = some (.int .i64 k) := ⟨X1.cell 0, X1.cell 1⟩
    have c1f := X1.frozen 1
    by_cases c : 2 ^ (2 * k) < m
    · have hk6 : k < 7 := by
        have : k ≠ 7 := by intro e; subst e; simp at c; omega
        omega
      have hlt := halfN_lt m k hk1 hk6 c
      have RR := Lib.hid (And.intro (X1.set 1 (.int .i64 ((k + 1 : Nat) : Int))) (And.intro (Y1.far (a := ⟨w.heap.size + 1, 1, none⟩) (by simp) (.int .i64 ((k + 1 : Nat) : Int))) (B1.setCell (p := ⟨w.heap.size + 1, 1, none⟩) (by simp) (.int .i64 ((k + 1 : Nat) : Int)))))
      clear X1 Y1 B1
      have HN := Lib.hid (And.intro hnk hlt)
      clear hnk hlt hk2 hk7
      have hc : k = 1 ∨ k = 2 ∨ k = 3 ∨ k = 4 ∨ k = 5 ∨ k = 6 := by omega
      rcases hc with rfl | rfl | rfl | rfl | rfl | rfl
      all_goals
        simp only [Nat.reduceMul, Nat.reducePow] at c
        clear hk1 hk6
        go_wp2_with fail
        go_roundg (gk - 1)
        case measure => have := HN.out.1; omega
        case rel => exact ⟨_, by have := HN.out.1; omega, by omega, HN.out.2, RR.out.1, RR.out.2.1, RR.out.2.2⟩
    · have hge := halfN_ge m k h2 hk1 hk7 c
      obtain ⟨H, hH⟩ : ∃ H, H = halfN m := ⟨_, rfl⟩
      have hkH : k = H := by omega
      have F0 : ∀ w, Calls Tryz.prog 111 #[.int .u64 key, .int .i64 0, .int .i64 16] w fun e w' => e = .returned (.int .u64 (keyN key 0 : Nat)) ∧ w = w' := fun w => by have := HF.out 0 w (by omega); rwa [field_key key 0 (by omega)] at this
      have F1 : ∀ w, Calls Tryz.prog 111 #[.int .u64 key, .int .i64 16, .int .i64 16] w fun e w' => e = .returned (.int .u64 (keyN key 1 : Nat)) ∧ w = w' := fun w => by have := HF.out 1 w (by omega); rwa [field_key key 1 (by omega)] at this
      have F2 : ∀ w, Calls Tryz.prog 111 #[.int .u64 key, .int .i64 32, .int .i64 16] w fun e w' => e = .returned (.int .u64 (keyN key 2 : Nat)) ∧ w = w' := fun w => by have := HF.out 2 w (by omega); rwa [field_key key 2 (by omega)] at this
      have F3 : ∀ w, Calls Tryz.prog 111 #[.int .u64 key, .int .i64 48, .int .i64 16] w fun e w' => e = .returned (.int .u64 (keyN key 3 : Nat)) ∧ w = w' := fun w => by have := HF.out 3 w (by omega); rwa [field_key key 3 (by omega)] at this
      have b0 := keyN_lt key 0
      have b1 := keyN_lt key 1
      have b2 := keyN_lt key 2
      have b3 := keyN_lt key 3
      obtain ⟨q0, hq0⟩ : ∃ q, keyN key 0 = q := ⟨_, rfl⟩
      rw [hq0] at F0 b0
      have HQ0 := Lib.hid hq0
      clear hq0
      obtain ⟨q1, hq1⟩ : ∃ q, keyN key 1 = q := ⟨_, rfl⟩
      rw [hq1] at F1 b1
      have HQ1 := Lib.hid hq1
      clear hq1
      obtain ⟨q2, hq2⟩ : ∃ q, keyN key 2 = q := ⟨_, rfl⟩
      rw [hq2] at F2 b2
      have HQ2 := Lib.hid hq2
      clear hq2
      obtain ⟨q3, hq3⟩ : ∃ q, keyN key 3 = q := ⟨_, rfl⟩
      rw [hq3] at F3 b3
      have HQ3 := Lib.hid hq3
      clear hq3
      have HF0 := Lib.hid F0
      have HF1 := Lib.hid F1
      have HF2 := Lib.hid F2
      have HF3 := Lib.hid F3
      clear F0 F1 F2 F3 HF
      have t0 : IntKind.u16.wrap (q0 : Int) = (q0 : Int) := IntWalk.u16_in _ (by omega)
      have t1 : IntKind.u16.wrap (q1 : Int) = (q1 : Int) := IntWalk.u16_in _ (by omega)
      have t2 : IntKind.u16.wrap (q2 : Int) = (q2 : Int) := IntWalk.u16_in _ (by omega)
      have t3 : IntKind.u16.wrap (q3 : Int) = (q3 : Int) := IntWalk.u16_in _ (by omega)
      clear b0 b1 b2 b3
      obtain ⟨c2, c3, c4, c5⟩ : wr.cell? ⟨w.heap.size + 1, 2, none⟩ = some (.int .u16 0) ∧ wr.cell? ⟨w.heap.size + 1, 3, none⟩ = some (.int .u16 0) ∧ wr.cell? ⟨w.heap.size + 1, 4, none⟩ = some (.int .u16 0) ∧ wr.cell? ⟨w.heap.size + 1, 5, none⟩ = some (.int .u16 0) := ⟨X1.cell 2, X1.cell 3, X1.cell 4, X1.cell 5⟩
      obtain ⟨f2, f3, f4, f5⟩ : wr.frozen? ⟨w.heap.size + 1, 2, none⟩ = false ∧ wr.frozen? ⟨w.heap.size + 1, 3, none⟩ = false ∧ wr.frozen? ⟨w.heap.size + 1, 4, none⟩ = false ∧ wr.frozen? ⟨w.heap.size + 1, 5, none⟩ = false := ⟨X1.frozen 2, X1.frozen 3, X1.frozen 4, X1.frozen 5⟩
      have HE := Lib.hid (And.intro hH hkH)
      clear hH hkH hge hnk hk2
      have hc : k = 1 ∨ k = 2 ∨ k = 3 ∨ k = 4 ∨ k = 5 ∨ k = 6 ∨ k = 7 := by omega
      have RR := Lib.hid (And.intro ((((X1.set 2 (.int .u16 q0)).set 3 (.int .u16 q1)).set 4 (.int .u16 q2)).set 5 (.int .u16 q3)) (And.intro ((((Y1.far (a := ⟨w.heap.size + 1, 2, none⟩) (by simp) (.int .u16 q0)).far (a := ⟨w.heap.size + 1, 3, none⟩) (by simp) (.int .u16 q1)).far (a := ⟨w.heap.size + 1, 4, none⟩) (by simp) (.int .u16 q2)).far (a := ⟨w.heap.size + 1, 5, none⟩) (by simp) (.int .u16 q3))
        ((((B1.setCell (p := ⟨w.heap.size + 1, 2, none⟩) (by simp) (.int .u16 q0)).setCell (p := ⟨w.heap.size + 1, 3, none⟩) (by simp) (.int .u16 q1)).setCell (p := ⟨w.heap.size + 1, 4, none⟩) (by simp) (.int .u16 q2)).setCell (p := ⟨w.heap.size + 1, 5, none⟩) (by simp) (.int .u16 q3))))
      clear X1 Y1 B1
      rcases hc with rfl | rfl | rfl | rfl | rfl | rfl | rfl
      all_goals
        simp only [Nat.reduceMul, Nat.reducePow] at c
        clear hk1 hk7
        go_wp2_with fail
        refine wp_loop_rounds 5 ?_
        rw [rounds_succ]
        go_wp2_with (first | (refine (HF0.out _).mono ?_; rintro e w9 ⟨rfl, rfl⟩))
        rw [rounds_succ]
        go_wp2_with (first | (refine (HF1.out _).mono ?_; rintro e w9 ⟨rfl, rfl⟩))
        rw [rounds_succ]
        go_wp2_with (first | (refine (HF2.out _).mono ?_; rintro e w9 ⟨rfl, rfl⟩))
        rw [rounds_succ]
        go_wp2_with (first | (refine (HF3.out _).mono ?_; rintro e w9 ⟨rfl, rfl⟩))
        rw [rounds_succ]
        clear c0 c1 c1f c2 c3 c4 c5 f2 f3 f4 f5
        generalize (((wr.setCell ⟨w.heap.size + 1, 2, none⟩ (Value.int .u16 q0)).setCell ⟨w.heap.size + 1, 3, none⟩ (Value.int .u16 q1)).setCell ⟨w.heap.size + 1, 4, none⟩ (Value.int .u16 q2)).setCell ⟨w.heap.size + 1, 5, none⟩ (Value.int .u16 q3) = wf at *
        have c0 : wf.cell? ⟨w.heap.size + 1, 0, none⟩ = some (.int .i64 m) := RR.out.1.cell 0
        have c2 : wf.cell? ⟨w.heap.size + 1, 2, none⟩ = some (.int .u16 q0) := RR.out.1.cell 2
        have c3 : wf.cell? ⟨w.heap.size + 1, 3, none⟩ = some (.int .u16 q1) := RR.out.1.cell 3
        have c4 : wf.cell? ⟨w.heap.size + 1, 4, none⟩ = some (.int .u16 q2) := RR.out.1.cell 4
        have c5 : wf.cell? ⟨w.heap.size + 1, 5, none⟩ = some (.int .u16 q3) := RR.out.1.cell 5
        obtain ⟨kk, c1⟩ : ∃ kk, wf.cell? ⟨w.heap.size + 1, 1, none⟩ = some (.int .i64 kk) ∧ kk = ((halfN m : Nat) : Int) := ⟨_, RR.out.1.cell 1, by have := HE.out; omega⟩
        obtain ⟨c1, hkk⟩ := c1
        have HKK := Lib.hid hkk
        clear hkk
        have d0 : wf.cell? ⟨w.heap.size, 0, none⟩ = some (.int .i64 0) := RR.out.2.1.cell 0
        have g0 := RR.out.2.1.frozen 0
        have d1 : wf.cell? ⟨w.heap.size, 1, none⟩ = some (.int .i64 0) := RR.out.2.1.cell 1
        have g1 := RR.out.2.1.frozen 1
        have d2 : wf.cell? ⟨w.heap.size, 2, none⟩ = some (.int .u16 0) := RR.out.2.1.cell 2
        have g2 := RR.out.2.1.frozen 2
        have d3 : wf.cell? ⟨w.heap.size, 3, none⟩ = some (.int .u16 0) := RR.out.2.1.cell 3
        have g3 := RR.out.2.1.frozen 3
        have d4 : wf.cell? ⟨w.heap.size, 4, none⟩ = some (.int .u16 0) := RR.out.2.1.cell 4
        have g4 := RR.out.2.1.frozen 4
        have d5 : wf.cell? ⟨w.heap.size, 5, none⟩ = some (.int .u16 0) := RR.out.2.1.cell 5
        have g5 := RR.out.2.1.frozen 5
        go_wp2_with fail
        have HB := RR.out.2.2
        exact bodyPost_ret (v := .tuple #[.agg #[.int .i64 m, .int .i64 kk, .int .u16 q0, .int .u16 q1, .int .u16 q2, .int .u16 q3], .int .i64 0]) (by simp [results, Tryz.results58, go_sem, *]) rfl ⟨by rw [HQ0.out, HQ1.out, HQ2.out, HQ3.out, HKK.out], by go_grown⟩

end Go.Proofs.YtjbhallhmnahbaaGreat

/-
  Layer 9, pure: a list of lines on a device: its head, its regions one behind the other, its contents.
-/
namespace Go.Proofs.YtjbhallhmnahbaaGreat
open Go.RowKit
set_option linter.unusedVariables false

/-- A config that may be, on a device of so many lines. -/
structure OkC (C : CfgZ) : Prop where
  r1 : 1 ≤ C.r
  r2 : C.r ≤ 16
  ok : okP C
  key : C.key < 18446744073709551616
  fits : 1 + C.r * regS C ≤ 8192
def regC (C : CfgZ) (q : Nat) : PlanR := regP C.l.toNat C.s C.psi q
def cR (C : CfgZ) : Nat := C.r.toNat
def cL (C : CfgZ) : Nat := C.l.toNat
section
variable {C : CfgZ} {q q2 : Nat}
theorem OkC.nums (h : OkC C) : ((cR C : Nat) : Int) = C.r ∧ ((cL C : Nat) : Int) = C.l ∧ 1 ≤ cR C ∧ cR C ≤ 16 ∧ 1 ≤ cL C ∧ cL C ≤ 1024 ∧ 0 ≤ C.s ∧ C.s ≤ 64 ∧ 1 ≤ C.psi ∧ C.psi ≤ 65535 ∧ regS C = (C.s + 7) / 8 + (C.l + 2) + C.s := by
  obtain ⟨h1, h2, h3, h4, h5⟩ := h
  obtain ⟨_, q2⟩ := regS_ok h3
  obtain ⟨g1, g2, g3, g4, g5, g6⟩ := h3
  unfold cR cL
  refine ⟨by omega, by omega, by omega, by omega, by omega, by omega, g3, g4, g5, g6, q2⟩
theorem OkC.wf (h : OkC C) : wfC C ∧ Wf16 C := by
  obtain ⟨n1, n2, n3, n4, n5, n6, n7, n8, n9, n10, n11⟩ := h.nums
  exact ⟨⟨by omega, by omega⟩, ⟨by omega, by omega, by omega, by omega, h.key⟩⟩
theorem OkC.size (h : OkC C) : sizeC C = 1 + C.r * regS C := by unfold sizeC; rw [if_pos ⟨h.r1, h.r2, h.ok⟩]
theorem OkC.check (h : OkC C) {n : Int} (hn : sizeC C ≤ n) : checkC C n = 0 := by
  have hb := mul_b C (k := C.r) (by have := h.r1; omega) h.r2
  unfold checkC
  rw [if_neg (by rw [h.size]; omega), if_neg (by omega)]
theorem OkC.step (h : OkC C) (hq : q < cR C) : (q : Int) * regS C + regS C ≤ C.r * regS C := by
  have hb := regS_b C
  have h1 : ((q : Int) + 1) * regS C ≤ C.r * regS C := Int.mul_le_mul_of_nonneg_right (by have := h.nums.1; omega) hb.1
  rw [Int.add_mul] at h1
  omega
theorem OkC.reg (h : OkC C) (hq : q < cR C) : OkR (regC C q) ∧ sizeZ (bankR (regC C q)) = regS C ∧ (regC C q).a = 1 + (q : Int) * regS C ∧ (regC C q).l = cL C ∧ (regC C q).s = C.s ∧ (regC C q).psi = C.psi ∧ (regC C q).a + regS C ≤ sizeC C ∧ 1 ≤ (regC C q).a := by
  obtain ⟨n1, n2, n3, n4, n5, n6, n7, n8, n9, n10, n11⟩ := h.nums
  obtain ⟨g1, _⟩ := regS_ok h.ok
  have hs := h.step hq
  have hz : sizeZ ⟨1, ((C.l.toNat : Nat) : Int) + 2, C.s⟩ = regS C := by rw [g1]; congr 2; unfold cL at n2; omega
  have hb := mul_b C (k := (q : Int)) (by omega) (by omega)
  have hf := h.fits
  have hrb := regS_b C
  obtain ⟨a1, a2⟩ := regP_size (l := C.l.toNat) (s := C.s) (psi := C.psi) (r := q) n5 n6 n7 n8 (by rw [hz]; omega) n9 n10
  have ha : (regC C q).a = 1 + (q : Int) * regS C := by show 1 + (q : Int) * sizeZ _ = _; rw [hz]
  refine ⟨a1, by rw [← hz]; exact a2, ha, rfl, rfl, rfl, ?_, by omega⟩
  rw [ha, h.size]
  omega
theorem OkC.apart (h : OkC C) (hq : q < cR C) (hq2 : q2 < cR C) (hne : q ≠ q2) : Apart (bankR (regC C q)) (bankR (regC C q2)) := by
  have hrb := regS_b C
  obtain ⟨_, s1, a1, _⟩ := h.reg hq
  obtain ⟨_, s2, a2, _⟩ := h.reg hq2
  unfold Apart
  show (regC C q).a + sizeZ (bankR (regC C q)) ≤ (regC C q2).a ∨ (regC C q2).a + sizeZ (bankR (regC C q2)) ≤ (regC C q).a
  rw [s1, s2, a1, a2]
  rcases Nat.lt_or_ge q q2 with c | c
  · left
    have := Int.mul_le_mul_of_nonneg_right (show (q : Int) + 1 ≤ (q2 : Int) by omega) hrb.1
    rw [Int.add_mul] at this
    omega
  · right
    have := Int.mul_le_mul_of_nonneg_right (show (q2 : Int) + 1 ≤ (q : Int) by omega) hrb.1
    rw [Int.add_mul] at this
    omega
theorem regV_eq (h : OkC C) (hq : q < cR C) : regV C (q : Int) = planRV (regC C q) := by
  obtain ⟨_, _, a1, a2, a3, a4, _⟩ := h.reg hq
  have n2 := h.nums.2.1
  unfold regV planRV
  rw [a1, a2, a3, a4, n2]
end
section
variable {P : PlanR} {D E : DevS} {B : BkS} {j : Nat} {F : Nat → Nat → Nat}
/-- A region's contents hang on its bank's words alone. -/
theorem RgC.keep (hP : OkR P) (h : RgC P D B j F) (hc : Calm E) (hn : E.n = D.n) (hb : E.bad = D.bad) (hx : ∀ x : Nat, 8 * P.a ≤ (x : Int) → (x : Int) < 8 * (P.a + sizeZ (bankR P)) → E.med x = D.med x) : RgC P E B j F := by
  obtain ⟨q1, q2, q3, q4, q5, q6⟩ := rg_nums hP
  have hba : (bankR P).a = P.a := rfl
  have hc2 : ∀ z, inP (bankR P) z → ∀ k, k < 8 → cntZ (bankR P) B E z k = cntZ (bankR P) B D z k := fun z hz k hk => by
    obtain ⟨l, pl, c1, c2, c3⟩ := h.ti.place hP.ok hz
    have hu := h.ti.us
    have hbl : (bankR P).l = (P.l : Int) + 2 := rfl
    have hbs : (bankR P).s = P.s := rfl
    unfold spareP at c3
    unfold cntZ
    rw [pl, Int.toNat_natCast]
    exact hx _ (by omega) (by omega)
  have hbl : (bankR P).l = (P.l : Int) + 2 := rfl
  refine ⟨h.ti.keep2 hc hn (fun x x1 x2 => hx x x1 (by omega)) hP.ok (fun l l1 l2 => by rw [hb]; exact h.ti.tb l l1 l2), ?_, fun i k hi hk => ?_⟩
  · rw [hc2 _ (inR P (by omega) (by omega)) 0 (by omega)]
    exact h.reg
  · have hle := slotN_le (j := j) (i := i) hP.l1
    rw [hc2 _ (inR P (by omega) (by omega)) k hk]
    exact h.wd i k hi hk
end
/-- A list's regions, its head, on a device that is calm. -/
structure LsC (C : CfgZ) (D : DevS) (B : Nat → BkS) (j : Nat → Nat) (F : Nat → Nat → Nat → Nat) : Prop where
  hd : ∀ k, k < 8 → D.med k = wdL (headL C) k
  rg : ∀ q, q < cR C → RgC (regC C q) D (B q) (j q) (F q)
def updN {α : Type} (f : Nat → α) (k : Nat) (v : α) : Nat → α := fun i => if i = k then v else f i
theorem updN_same {α : Type} (f : Nat → α) (k : Nat) (v : α) : updN f k v k = v := if_pos rfl
theorem updN_other {α : Type} (f : Nat → α) {k i : Nat} (v : α) (h : i ≠ k) : updN f k v i = f i := if_neg h
section
variable {C : CfgZ} {D E E0 : DevS} {B : Nat → BkS} {j : Nat → Nat} {F : Nat → Nat → Nat → Nat} {q0 i0 j' : Nat} {B' : BkS} {G : Int → (Nat → Nat) → Prop} {e : Int}
/-- What is outside a region is the head, and the others. -/
theorem OkC.outs (h : OkC C) (hq : q0 < cR C) : (∀ k, k < 8 → OutZ (bankR (regC C q0)) k) ∧ ∀ q, q < cR C → q ≠ q0 → ∀ x : Nat, 8 * (regC C q).a ≤ (x : Int) → (x : Int) < 8 * ((regC C q).a + sizeZ (bankR (regC C q))) → OutZ (bankR (regC C q0)) x := by
  obtain ⟨_, s0, a0, _, _, _, _, l0⟩ := h.reg hq
  refine ⟨fun k hk => ?_, fun q hq1 hne x h1 h2 => ?_⟩
  · unfold OutZ
    show (k : Int) < 8 * (regC C q0).a ∨ _
    omega
  · have ha := h.apart hq1 hq hne
    have ha' : (regC C q).a + sizeZ (bankR (regC C q)) ≤ (regC C q0).a ∨ (regC C q0).a + sizeZ (bankR (regC C q0)) ≤ (regC C q).a := ha
    unfold OutZ
    show (x : Int) < 8 * (regC C q0).a ∨ 8 * ((regC C q0).a + sizeZ (bankR (regC C q0))) ≤ (x : Int)
    omega
/-- A list, region q0 of it being another one now; E0 is calm, and as E outside. -/
theorem LsC.other (h : OkC C) (L : LsC C (bare D) B j F) (hq : q0 < cR C) (hc : Calm E0) (hn : E0.n = D.n) (hb : E0.bad = D.bad) (ho : ∀ x, OutZ (bankR (regC C q0)) x → E0.med x = D.med x) {F0 : Nat → Nat → Nat} (hr : RgC (regC C q0) E0 B' j' F0) : LsC C E0 (updN B q0 B') (updN j q0 j') (updN F q0 F0) := by
  obtain ⟨o1, o2⟩ := h.outs hq
  refine ⟨fun k hk => ?_, fun q hq1 => ?_⟩
  · rw [ho k (o1 k hk)]
    exact L.hd k hk
  · by_cases c : q = q0
    · subst c
      rw [updN_same, updN_same, updN_same]
      exact hr
    · rw [updN_other _ _ c, updN_other _ _ c, updN_other _ _ c]
      exact (L.rg q hq1).keep (h.reg hq1).1 hc hn hb fun x x1 x2 => ho x (o2 q hq1 c x x1 x2)
end
end Go.Proofs.YtjbhallhmnahbaaGreat
