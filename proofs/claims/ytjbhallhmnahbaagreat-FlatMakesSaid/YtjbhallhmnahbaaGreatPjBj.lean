/-
  PjBj: FlW, FlXa, SpL.
-/
import Derived.Test.YtjbhallhmnahbaaGreatPjBi
import Derived.Test.YtjbhallhmnahbaaGreatPjAq
import Derived.Test.YtjbhallhmnahbaaGreatPjAb

set_option linter.unusedVariables false

/-
  Layer 9: the law's full, its examples.
-/
namespace Go.Proofs.YtjbhallhmnahbaaGreat
open Go.RowKit
set_option linter.unusedVariables false

set_option maxRecDepth 20000 in
set_option maxHeartbeats 2000000 in
theorem full09 (s : ByteArray) (w : World) (hs : s.size ≤ 4611686018427387904) :
    Calls Tryz.prog 19 #[.string s] w fun e w' => e = .returned (.string (fullS s)) ∧ Gr [] w w' := by
  go_enter Tryz.func19, Tryz.ntmps19
  go_wp2_with fail
  refine (repeat64 _).mono ?_
  rintro e w1 ⟨rfl, g1⟩
  have HG := Lib.hid g1
  clear g1
  go_wp2_with fail
  go_ret
  exact ⟨by rw [← extract_full]; rfl, HG.out⟩
def C9 : CfgZ := ⟨2, 4, 0, 3, 77⟩
theorem regS9 : regS C9 = 6 := by
  obtain ⟨_, h⟩ := regS_ok (C := C9) (by unfold okP C9; simp only; omega)
  rw [h]
  rfl
theorem ok9 : OkC C9 := ⟨by decide, by decide, by unfold okP C9; simp only; omega, by decide, by rw [regS9]; decide⟩
theorem size9 : sizeC C9 = 13 := by rw [ok9.size, regS9]; rfl
theorem nought_word {k : Nat} (h : k < 8) : wdL (fullS ⟨#[]⟩).data.toList k = 0 := by
  rcases (show k = 0 ∨ k = 1 ∨ k = 2 ∨ k = 3 ∨ k = 4 ∨ k = 5 ∨ k = 6 ∨ k = 7 by omega) with rfl | rfl | rfl | rfl | rfl | rfl | rfl | rfl <;> decide +kernel
theorem newD_gud (n : Nat) : Gud n (newD n) ∧ Calm (newD n) ∧ Bd (newD n) 0 := ⟨⟨⟨rfl, fun _ => rfl⟩, rfl, rfl⟩, ⟨rfl, rfl, fun _ => rfl⟩, ⟨Nat.le_refl _, fun _ => ⟨by show (0 : Int) ≤ 0; omega, by show (0 : Int) ≤ 0; omega⟩⟩⟩
/-- Make of a new device. -/
theorem fl_new {C : CfgZ} (hC : OkC C) {n : Nat} (hn : sizeC C ≤ (n : Int)) (w : World) (a : DevA) (h : DevIs w a (newD n)) :
    Calls Tryz.prog 13 #[.pointer (some ⟨a.bd, 0, none⟩), cfgV C] w fun e w' => e = .returned (.int .i64 0) ∧ DevIs w' a (makeZ C (newD n)).2 ∧ FlD C true (fun _ _ => 0) (vOf C (fun _ => B0) (fun _ => 0) (iL C)) 200000 (makeZ C (newD n)).2 (fun _ => B0) (fun _ => 0) ∧ Gr a.all w w' := by
  obtain ⟨g1, g2, g3⟩ := newD_gud n
  obtain ⟨m1, m2, m3, m4⟩ := fl_made (N := 200000) hC hn g2 g1
  have n4 := hC.nums
  refine (fmake_any h hC hn g1 g3 (by omega)).mono ?_
  rintro e w2 ⟨rfl, d2, b2, g2⟩
  exact ⟨by rw [m1], d2, m4 (b2.mono (by omega)), g2⟩
theorem lnF_is {C : CfgZ} {A : FlA} {a : DevA} {g : Bool} {F : Nat → Nat → Nat} {V : FlV} {N : Nat} {w : World} (h : FL C A a g F V N w) {l : Nat} (hl : l < cR C * cL C) {s : ByteArray} (hs : s.size = 64) (hF : ∀ k, k < 8 → F l k = wdL s.data.toList k) : lnF F l = s := by
  obtain ⟨h1, h2⟩ := h.size l hl
  exact bytes_eq h1 hs fun k hk => (h2 k hk).trans (hF k hk)
set_option maxRecDepth 100000 in
set_option maxHeartbeats 8000000 in
theorem wakes09 (w : World) : Calls Tryz.prog 12 #[] w fun e w' => e = .returned (.bool true) ∧ Gr [] w w' := by
  have HFx := Lib.hid (fun W => full09 ⟨#[120]⟩ W (by show 1 ≤ _; omega))
  have HF0 := Lib.hid (fun W => full09 ⟨#[]⟩ W (by show 0 ≤ _; omega))
  obtain ⟨X, hX⟩ : ∃ A, A = fullS ⟨#[120]⟩ := ⟨_, rfl⟩
  obtain ⟨Y, hY⟩ : ∃ A, A = fullS ⟨#[]⟩ := ⟨_, rfl⟩
  have HX := Lib.hid (show X.size = 64 by rw [hX]; exact fullS_size _)
  have HY := Lib.hid (show Y.size = 64 ∧ ∀ k, k < 8 → wdL Y.data.toList k = 0 by rw [hY]; exact ⟨fullS_size _, fun k hk => nought_word hk⟩)
  rw [← hX] at HFx
  rw [← hY] at HF0
  have HMk := Lib.hid (fun W a (d : DevIs W a (newD 13)) => show Calls Tryz.prog 13 #[.pointer (some ⟨a.bd, 0, none⟩), .agg #[.int .i64 2, .int .i64 4, .int .i64 0, .int .i64 3, .int .u64 77]] W _ from fl_new ok9 (by rw [size9]; decide) W a d)
  have HSz := Lib.hid (fun W => show Calls Tryz.prog 37 #[.agg #[.int .i64 2, .int .i64 4, .int .i64 0, .int .i64 3, .int .u64 77]] W (fun e w' => e = .returned (.int .i64 13) ∧ Gr [] W w') from by have := csize_any C9 ok9.wf.1 W; rw [size9] at this; exact this)
  have HH := Lib.hid (Holds.new w #[.int .i64 2, .int .i64 4, .int .i64 0, .int .i64 3, .int .u64 77] 37)
  have HG0 := Lib.hid ((Gr.refl [] w).alloc (Obj.cells #[.int .i64 2, .int .i64 4, .int .i64 0, .int .i64 3, .int .u64 77] 37))
  have hneq : ∀ W : World, (binOp .neq 37 (.agg #[.int .i64 2, .int .i64 4, .int .i64 0, .int .i64 3, .int .u64 77]) (.agg #[.int .i64 2, .int .i64 4, .int .i64 0, .int .i64 3, .int .u64 77])).run Tryz.prog W = .ok (.bool false) W := fun W => by kernel_rfl
  clear hX hY
  go_enter Tryz.func12, Tryz.ntmps12
  go_upto_region 2 with fail
  generalize (w.alloc (Obj.cells #[.int .i64 2, .int .i64 4, .int .i64 0, .int .i64 3, .int .u64 77] 37)) = w1 at *
  obtain ⟨pb, hpb⟩ : ∃ pb, w.heap.size = pb := ⟨_, rfl⟩
  rw [hpb] at HH ⊢
  clear hpb
  go_wp2_with fail
  refine (pmnew_yes 13 _ (by omega) (by omega)).mono ?_
  rintro e w2 ⟨a, rfl, d2, hlo, g2⟩
  have HLO := Lib.hid (show ∀ x ∈ a.all, w.heap.size ≤ x from fun x hx => Nat.le_trans HG0.out.size (hlo x hx))
  have HNP := Lib.hid (show pb ∉ a.all from fun q => by have := hlo _ q; have := HH.out.lt; omega)
  have H2 := Lib.hid (And.intro d2 (And.intro (HH.out.gr0 g2) (HG0.out.trans g2)))
  have c0 := H2.out.2.1.cell 0
  have c1 := H2.out.2.1.cell 1
  have c2 := H2.out.2.1.cell 2
  have c3 := H2.out.2.1.cell 3
  have c4 := H2.out.2.1.cell 4
  clear d2 g2 hlo HH HG0
  go_wp2_with fail
  with_reducible refine (HMk.out _ a H2.out.1).mono ?_
  rintro e w3 ⟨rfl, d3, f3, g3⟩
  have H3 := Lib.hid (And.intro d3 (And.intro (H2.out.2.1.gr g3 HNP.out) (And.intro (H2.out.2.2.nextN g3 fun x hx => .inr (HLO.out x hx)) f3)))
  clear d3 f3 g3 c0 c1 c2 c3 c4 H2 HMk
  go_wp2_with fail
  refine (fl_open ok9 H3.out.2.2.2 (by omega) H3.out.1).mono ?_
  rintro e w4 ⟨A, rfl, f4, n4, g4⟩
  have HNA := Lib.hid (show ∀ x ∈ A.all (cR C9) ++ a.all, w.heap.size ≤ x from fun x hx => by
    rcases List.mem_append.1 hx with hx | hx
    · exact Nat.le_trans H3.out.2.2.1.size (n4 x hx)
    · exact HLO.out x hx)
  have H4 := Lib.hid (And.intro f4 (And.intro (H3.out.2.1.gr0 g4) (H3.out.2.2.1.trans g4)))
  clear f4 n4 g4 H3
  have k0 := kp_cell (H4.out.2.1.cell 0)
  have k1 := kp_cell (H4.out.2.1.cell 1)
  have k2 := kp_cell (H4.out.2.1.cell 2)
  have k3 := kp_cell (H4.out.2.1.cell 3)
  have k4 := kp_cell (H4.out.2.1.cell 4)
  have hne := kp_ne w4
  go_wp2_with fail
  have HLn := Lib.hid (fun (x : Cls (Kp w4)) => show Calls Tryz.prog 30 #[.pointer (some ⟨A.fb, 0, none⟩)] x.w (fun e w' => e = .returned (.int .i64 8) ∧ Below x.w.heap.size x.w w') from ((H4.out.1.gr0 (Gr.ofBelow x.h)).lines).mono fun _ _ q => ⟨q.1, q.2.below0⟩)
  have HCn := Lib.hid (fun (x : Cls (Kp w4)) => show Calls Tryz.prog 39 #[.pointer (some ⟨A.fb, 0, none⟩)] x.w (fun e w' => e = .returned (.agg #[.int .i64 2, .int .i64 4, .int .i64 0, .int .i64 3, .int .u64 77]) ∧ Below x.w.heap.size x.w w') from ((H4.out.1.gr0 (Gr.ofBelow x.h)).config).mono fun _ _ q => ⟨q.1, q.2.below0⟩)
  refine wp_region_kp (by kernel_rfl) (by kernel_rfl) ?_
  repeat (go_big_quiet_step ((rename_i x; first
    | with_reducible exact kp_call x (HLn.out x)
    | with_reducible exact kp_call x (HCn.out x)
    | with_reducible exact kp_call x ((HSz.out _).mono fun _ _ q => ⟨q.1, q.2.below0⟩))))
  with_reducible refine wpQuiet_nil ?_
  rintro _ ⟨y, rfl⟩
  have gy : Gr [] w4 y.w := Gr.ofBelow (cs := []) y.h
  have H5 := Lib.hid (And.intro (H4.out.1.gr0 gy) (H4.out.2.2.trans gy))
  clear k0 k1 k2 k3 k4 hne gy H4 HLn HCn hneq HSz
  generalize y.w = w5 at *
  clear y
  go_wp2_with fail
  with_reducible refine (HFx.out _).mono ?_
  rintro e w6 ⟨rfl, g6⟩
  have H6 := Lib.hid (And.intro (H5.out.1.gr0 g6) (H5.out.2.trans g6))
  clear g6 H5
  go_wp2_with fail
  refine (H6.out.1.put (by omega) 5 (by decide) X HX.out).mono ?_
  rintro e w7 ⟨x, V', rfl, hx, g7⟩
  rcases hx with ⟨rfl, f7⟩ | ⟨_, hf, _⟩
  case inr => exact absurd hf (by decide)
  have H7 := Lib.hid (And.intro f7 (H6.out.2.nextN g7 fun x hx => .inr (HNA.out x hx)))
  clear f7 g7 H6
  go_wp2_with fail
  refine (H7.out.1.read 5 (by decide)).mono ?_
  rintro e w8 ⟨rfl, g8⟩
  have H8 := Lib.hid (And.intro (H7.out.1.gr0 g8) (H7.out.2.trans g8))
  clear g8 H7
  rw [lnF_is H8.out.1 (by decide) HX.out (fun k hk => if_pos rfl)]
  go_wp2_with fail
  refine (H8.out.1.read 4 (by decide)).mono ?_
  rintro e w9 ⟨rfl, g9⟩
  have H9 := Lib.hid (And.intro (H8.out.1.gr0 g9) (H8.out.2.trans g9))
  clear g9 H8
  rw [lnF_is H9.out.1 (by decide) HY.out.1 (fun k hk => by rw [if_neg (by decide), HY.out.2 k hk])]
  have HRg := Lib.hid (fun W (g : Gr [] w9 W) => show Calls Tryz.prog 40 #[.pointer (some ⟨A.fb, 0, none⟩), .int .i64 5] W (fun e w' => e = .returned (.int .i64 1) ∧ Gr [] W w') from (H9.out.1.gr0 g).region 5 (by decide))
  go_wp2_with fail
  with_reducible refine (HFx.out _).mono ?_
  rintro e wa ⟨rfl, ga⟩
  have HA := Lib.hid ga
  clear ga
  go_wp2_with fail
  with_reducible refine (HF0.out _).mono ?_
  rintro e wb ⟨rfl, gb⟩
  have HB := Lib.hid (HA.out.trans gb)
  clear gb HA
  go_wp2_with fail
  with_reducible refine (HRg.out _ HB.out).mono ?_
  rintro e wc ⟨rfl, gc⟩
  have HF := Lib.hid (H9.out.2.trans (HB.out.trans gc))
  clear gc HB
  go_wp2_with fail
  go_ret
  exact ⟨rfl, HF.out⟩
end Go.Proofs.YtjbhallhmnahbaaGreat

/-
  FlatAlike: the law's small; a list at work, whatever index it is given.
-/
namespace Go.Proofs.YtjbhallhmnahbaaGreat
open Go.RowKit
set_option linter.unusedVariables false

def smallC (r l s p : Int) (key : Nat) : CfgZ := ⟨1 + mx r % 3, 1 + mx l % 5, mx s % 5, 1 + mx p % 4, key⟩
set_option maxRecDepth 100000 in
set_option maxHeartbeats 4000000 in
theorem small09 (r l s p : Int) (key : Nat) (w : World) : Calls Tryz.prog 8 #[.agg #[.int .i64 r, .int .i64 l, .int .i64 s, .int .i64 p, .int .u64 (key : Int)]] w fun e w' => e = .returned (cfgV (smallC r l s p key)) ∧ Gr [] w w' := by
  have hmx := max0 Tryz.prog
  have h0 := mx_nonneg r
  have h1 := mx_nonneg l
  have h2 := mx_nonneg s
  have h3 := mx_nonneg p
  obtain ⟨r1, e1⟩ : ∃ x, x = mx r % 3 := ⟨_, rfl⟩
  obtain ⟨l1, e2⟩ : ∃ x, x = mx l % 5 := ⟨_, rfl⟩
  obtain ⟨s1, e3⟩ : ∃ x, x = mx s % 5 := ⟨_, rfl⟩
  obtain ⟨p1, e4⟩ : ∃ x, x = mx p % 4 := ⟨_, rfl⟩
  have b1 : IntKind.i64.wrap (1 + mx r % 3) = 1 + mx r % 3 := IntWalk.i64_in _ (by omega)
  have b2 : IntKind.i64.wrap (1 + mx l % 5) = 1 + mx l % 5 := IntWalk.i64_in _ (by omega)
  have b4 : IntKind.i64.wrap (1 + mx p % 4) = 1 + mx p % 4 := IntWalk.i64_in _ (by omega)
  have hb1 := (Holds.new w #[.int .i64 r, .int .i64 l, .int .i64 s, .int .i64 p, .int .u64 (key : Int)] 24).alloc (Obj.cells #[.int .i64 0, .int .i64 0, .int .i64 0, .int .i64 0, .int .u64 0] 26)
  have hb2 := Holds.new (w.alloc (Obj.cells #[.int .i64 r, .int .i64 l, .int .i64 s, .int .i64 p, .int .u64 (key : Int)] 24)) #[.int .i64 0, .int .i64 0, .int .i64 0, .int .i64 0, .int .u64 0] 26
  rw [World.size_alloc] at hb2
  have hg := ((Gr.refl [] w).alloc (Obj.cells #[.int .i64 r, .int .i64 l, .int .i64 s, .int .i64 p, .int .u64 (key : Int)] 24)).alloc (Obj.cells #[.int .i64 0, .int .i64 0, .int .i64 0, .int .i64 0, .int .u64 0] 26)
  have H := Lib.hid (And.intro hb1 (And.intro hb2 hg))
  unfold cfgV smallC
  clear hb1 hb2 hg e1 e2 e3 e4
  go_enter Tryz.func8, Tryz.ntmps8
  go_upto_region 1 with fail
  generalize (w.alloc (Obj.cells #[.int .i64 r, .int .i64 l, .int .i64 s, .int .i64 p, .int .u64 (key : Int)] 24)).alloc (Obj.cells #[.int .i64 0, .int .i64 0, .int .i64 0, .int .i64 0, .int .u64 0] 26) = w1 at *
  obtain ⟨b, hb⟩ : ∃ b, w.heap.size = b := ⟨_, rfl⟩
  have HW := Lib.hid (show w.heap.size ≤ b by omega)
  rw [hb] at H ⊢
  clear hb
  have c0 : w1.cell? ⟨b, 0, none⟩ = some (.int .i64 r) := H.out.1.cell 0
  have c1 : w1.cell? ⟨b, 1, none⟩ = some (.int .i64 l) := H.out.1.cell 1
  have c2 : w1.cell? ⟨b, 2, none⟩ = some (.int .i64 s) := H.out.1.cell 2
  have c3 : w1.cell? ⟨b, 3, none⟩ = some (.int .i64 p) := H.out.1.cell 3
  have c4 : w1.cell? ⟨b, 4, none⟩ = some (.int .u64 (key : Int)) := H.out.1.cell 4
  obtain ⟨b2', hb2'⟩ : ∃ b2', b + 1 = b2' := ⟨_, rfl⟩
  have HW2 := Lib.hid (show w.heap.size ≤ b2' by have := HW.out; omega)
  rw [hb2'] at H ⊢
  clear hb2'
  have d0 : w1.cell? ⟨b2', 0, none⟩ = some (.int .i64 0) := H.out.2.1.cell 0
  have d1 : w1.cell? ⟨b2', 1, none⟩ = some (.int .i64 0) := H.out.2.1.cell 1
  have d2 : w1.cell? ⟨b2', 2, none⟩ = some (.int .i64 0) := H.out.2.1.cell 2
  have d3 : w1.cell? ⟨b2', 3, none⟩ = some (.int .i64 0) := H.out.2.1.cell 3
  have d4 : w1.cell? ⟨b2', 4, none⟩ = some (.int .u64 0) := H.out.2.1.cell 4
  have f0 := H.out.2.1.frozen 0
  have f1 := H.out.2.1.frozen 1
  have f2 := H.out.2.1.frozen 2
  have f3 := H.out.2.1.frozen 3
  have f4 := H.out.2.1.frozen 4
  have HF := Lib.hid (((((H.out.2.2.setCell (p := ⟨b2', 0, none⟩) (.inr HW2.out) (.int .i64 (1 + mx r % 3))).setCell (p := ⟨b2', 1, none⟩) (.inr HW2.out) (.int .i64 (1 + mx l % 5))).setCell (p := ⟨b2', 2, none⟩) (.inr HW2.out) (.int .i64 (mx s % 5))).setCell (p := ⟨b2', 3, none⟩) (.inr HW2.out) (.int .i64 (1 + mx p % 4))).setCell (p := ⟨b2', 4, none⟩) (.inr HW2.out) (.int .u64 (key : Int)))
  go_wp2_with fail
  exact bodyPost_ret (v := .agg #[.int .i64 (1 + mx r % 3), .int .i64 (1 + mx l % 5), .int .i64 (mx s % 5), .int .i64 (1 + mx p % 4), .int .u64 (key : Int)]) (by simp [results, Tryz.results8, go_sem, *]) rfl ⟨rfl, HF.out⟩
theorem smallC_ok (r l s p : Int) (key : Nat) (hk : key < 18446744073709551616) : OkC (smallC r l s p key) ∧ (smallC r l s p key).r ≤ 3 ∧ (smallC r l s p key).l ≤ 5 ∧ sizeC (smallC r l s p key) ≤ 37 := by
  have h0 := mx_nonneg r
  have h1 := mx_nonneg l
  have h2 := mx_nonneg s
  have h3 := mx_nonneg p
  have e1 : (smallC r l s p key).r = 1 + mx r % 3 := rfl
  have e2 : (smallC r l s p key).l = 1 + mx l % 5 := rfl
  have e3 : (smallC r l s p key).s = mx s % 5 := rfl
  have e4 : (smallC r l s p key).psi = 1 + mx p % 4 := rfl
  have ok : okP (smallC r l s p key) := by unfold okP; omega
  obtain ⟨_, hs⟩ := regS_ok ok
  have hrs : 0 ≤ regS (smallC r l s p key) ∧ regS (smallC r l s p key) ≤ 12 := by rw [hs]; omega
  have hm : (smallC r l s p key).r * regS (smallC r l s p key) ≤ 3 * 12 := Int.mul_le_mul (by omega) hrs.2 hrs.1 (by omega)
  have hC : OkC (smallC r l s p key) := ⟨by omega, by omega, ok, hk, by omega⟩
  exact ⟨hC, by omega, by omega, by rw [hC.size]; omega⟩
/-- A list none of whose lines is bad, behind n writes at most. -/
def FQ (C : CfgZ) (A : FlA) (a : DevA) (F : Nat → Nat → Nat) (n : Nat) (w : World) : Prop := ∃ V, FL C A a true F V (200000 + 4200 * n) w
section
variable {w w' : World} {A : FlA} {a : DevA} {C : CfgZ} {F F' : Nat → Nat → Nat} {n : Nat}
theorem FQ.gr {bs : List Nat} (h : FQ C A a F n w) (k : Gr bs w w') (hn : ∀ x ∈ A.all (cR C) ++ a.all, x ∉ bs) : FQ C A a F n w' := h.elim fun V h => ⟨V, h.gr k hn⟩
theorem FQ.gr0 (h : FQ C A a F n w) (k : Gr [] w w') : FQ C A a F n w' := h.elim fun V h => ⟨V, h.gr0 k⟩
theorem FQ.lt (h : FQ C A a F n w) : ∀ x ∈ A.all (cR C) ++ a.all, x < w.heap.size := h.elim fun V h => h.lt
theorem FQ.more {m : Nat} (h : FQ C A a F n w) (hm : n ≤ m) : FQ C A a F m w := h.elim fun V h => ⟨V, h.more (by omega)⟩
theorem FQ.put (h : FQ C A a F n w) (hn : n < 69) (i : Int) (s : ByteArray) (hs : s.size = 64) :
    Calls Tryz.prog 18 #[.pointer (some ⟨A.fb, 0, none⟩), .int .i64 i, .string s] w fun e w' => e = .returned (.int .i64 (errP (cR C * cL C) i)) ∧ FQ C A a (putF F i s) (n + 1) w' ∧ Gr (A.all (cR C) ++ a.all) w w' := by
  obtain ⟨V, h⟩ := h
  by_cases ho : i < 0 ∨ ((cR C * cL C : Nat) : Int) ≤ i
  · have h' := h
    obtain ⟨ok, D, B, j, c, h1, h2, h3⟩ := h
    refine (fwrite_out i s h2 hs ho).mono ?_
    rintro e w2 ⟨rfl, g⟩
    refine ⟨by unfold errP; rw [if_pos ho], ⟨V, ((h'.gr0 g).congr (fun l k hl _ => ?_)).more (by omega)⟩, g.of0⟩
    unfold putF
    rw [if_neg (by omega)]
  · obtain ⟨l, rfl⟩ : ∃ l : Nat, i = (l : Int) := ⟨i.toNat, by omega⟩
    refine (h.put (by omega) l (by omega) s hs).mono ?_
    rintro e w2 ⟨x, V', rfl, hx, g⟩
    rcases hx with ⟨rfl, r⟩ | ⟨_, hf, _⟩
    · refine ⟨by unfold errP; rw [if_neg ho], ⟨V', (r.congr (fun l2 k _ _ => ?_)).more (by omega)⟩, g⟩
      unfold putF
      by_cases e : l2 = l
      · rw [if_pos e, if_pos (by omega)]
      · rw [if_neg e, if_neg (by omega)]
    · exact absurd hf (by decide)
theorem FQ.read (h : FQ C A a F n w) (l : Nat) (hl : l < cR C * cL C) :
    Calls Tryz.prog 22 #[.pointer (some ⟨A.fb, 0, none⟩), .int .i64 (l : Int)] w fun e w' => e = .returned (.tuple #[.string (lnF F l), .int .i64 0]) ∧ Gr [] w w' := h.elim fun V h => h.read l hl
end
end Go.Proofs.YtjbhallhmnahbaaGreat

/-
  Layer 5: the document's plans; the law's small.
-/
namespace Go.Proofs.YtjbhallhmnahbaaGreat
open Go.RowKit

theorem rplan_cells (p : PlanZ) (w : World) : (w.alloc (Obj.cells #[.int .i64 p.a, .int .i64 p.l, .int .i64 p.s] 138)).cell? ⟨w.heap.size, 0, none⟩ = some (.int .i64 p.a) ∧ (w.alloc (Obj.cells #[.int .i64 p.a, .int .i64 p.l, .int .i64 p.s] 138)).cell? ⟨w.heap.size, 1, none⟩ = some (.int .i64 p.l) ∧ (w.alloc (Obj.cells #[.int .i64 p.a, .int .i64 p.l, .int .i64 p.s] 138)).cell? ⟨w.heap.size, 2, none⟩ = some (.int .i64 p.s) := (Holds.new w _ _).three
theorem below_rplan (p : PlanZ) (w : World) : Below w.heap.size w (w.alloc (Obj.cells #[.int .i64 p.a, .int .i64 p.l, .int .i64 p.s] 138)) := (Below.refl _ w).alloc (Nat.le_refl _) _
theorem rtable_any (p : PlanZ) (hp : okZ p = true) (w : World) : Calls Tryz.prog 130 #[planV p] w fun e w' => e = .returned (.int .i64 (tabZ p)) ∧ Below w.heap.size w w' := by
  obtain ⟨a, l, s⟩ := p
  obtain ⟨h1, h2, h3, h4, h5, h6⟩ := (okZ_iff _).1 hp
  simp only at h1 h2 h3 h4 h5 h6
  unfold planV tabZ
  simp only
  have HB := Lib.hid ((Below.refl w.heap.size w).alloc (Nat.le_refl _) (Obj.cells #[.int .i64 a, .int .i64 l, .int .i64 s] 138))
  clear hp
  go_enter Tryz.func130, Tryz.ntmps130
  go_wp2
  go_ret
  exact ⟨rfl, HB.out⟩
set_option maxHeartbeats 4000000 in
theorem rsize_any (p : PlanZ) (hp : okZ p = true) (w : World) : Calls Tryz.prog 68 #[planV p] w fun e w' => e = .returned (.int .i64 (sizeZ p)) ∧ Below w.heap.size w w' := by
  obtain ⟨c0, c1, c2⟩ := rplan_cells p w
  have HB := Lib.hid (below_rplan p w)
  obtain ⟨w1, hw1⟩ : ∃ w1, w1 = w.alloc (Obj.cells #[.int .i64 p.a, .int .i64 p.l, .int .i64 p.s] 138) := ⟨_, rfl⟩
  have hl : w.heap.size < w1.heap.size := by rw [hw1, World.size_alloc]; omega
  have hs : sizeZ p = tabZ p + p.l + p.s := by unfold sizeZ; rw [if_pos hp]
  obtain ⟨h1, h2, h3, h4, h5, h6⟩ := (okZ_iff p).1 hp
  have HT := Lib.hid (fun W => show Calls Tryz.prog 130 #[.agg #[.int .i64 p.a, .int .i64 p.l, .int .i64 p.s]] W _ from rtable_any p hp W)
  have ht : 0 ≤ tabZ p ∧ tabZ p ≤ 8 := by unfold tabZ; omega
  obtain ⟨t, htt⟩ : ∃ t, t = tabZ p := ⟨_, rfl⟩
  rw [← htt] at HT hs ht
  have HS := Lib.hid hs
  have i1 : IntKind.i64.wrap (t + p.l) = t + p.l := IntWalk.i64_in _ (by omega)
  have i2 : IntKind.i64.wrap (t + p.l + p.s) = t + p.l + p.s := IntWalk.i64_in _ (by omega)
  clear hp hs htt ht
  unfold planV
  go_enter Tryz.func68, Tryz.ntmps68
  go_wp2_with fail
  rw [← hw1] at c0 c1 c2 HB ⊢
  clear hw1
  refine (HT.out _).mono ?_
  rintro e w2 ⟨rfl, hb2⟩
  replace c0 := (hb2.cell (p := ⟨w.heap.size, 0, none⟩) hl).trans c0
  replace c1 := (hb2.cell (p := ⟨w.heap.size, 1, none⟩) hl).trans c1
  replace c2 := (hb2.cell (p := ⟨w.heap.size, 2, none⟩) hl).trans c2
  have HB2 := Lib.hid (Below_nx HB.out hb2)
  clear hb2
  go_wp2_with fail
  go_ret
  exact ⟨by rw [HS.out]; rfl, HB2.out⟩
set_option maxHeartbeats 8000000 in
theorem rcheck_any (p : PlanZ) (n : Int) (w : World) : Calls Tryz.prog 137 #[planV p, .int .i64 n] w fun e w' => e = .returned (.int .i64 (checkZ p n)) ∧ Below w.heap.size w w' := by
  obtain ⟨c0, c1, c2⟩ := rplan_cells p w
  have HB := Lib.hid (below_rplan p w)
  by_cases h : 0 ≤ p.a ∧ p.a ≤ 8192 ∧ 1 ≤ p.l ∧ p.l ≤ 1026 ∧ 0 ≤ p.s ∧ p.s ≤ 64
  · have hok := (okZ_iff p).2 h
    obtain ⟨w1, hw1⟩ : ∃ w1, w1 = w.alloc (Obj.cells #[.int .i64 p.a, .int .i64 p.l, .int .i64 p.s] 138) := ⟨_, rfl⟩
    have hl : w.heap.size < w1.heap.size := by rw [hw1, World.size_alloc]; omega
    obtain ⟨h1, h2, h3, h4, h5, h6⟩ := h
    have HT := Lib.hid (fun W => show Calls Tryz.prog 68 #[.agg #[.int .i64 p.a, .int .i64 p.l, .int .i64 p.s]] W _ from rsize_any p hok W)
    have ht : 0 ≤ sizeZ p ∧ sizeZ p ≤ 2000 := by unfold sizeZ tabZ; rw [if_pos hok]; omega
    have hc : checkZ p n = if n < p.a + sizeZ p then 3 else 0 := by unfold checkZ; rw [if_pos hok]
    obtain ⟨t, htt⟩ : ∃ t, t = sizeZ p := ⟨_, rfl⟩
    rw [← htt] at HT ht hc
    have HC := Lib.hid hc
    have i1 : IntKind.i64.wrap (p.a + t) = p.a + t := IntWalk.i64_in _ (by omega)
    clear htt hc hok ht
    unfold planV
    by_cases hlt : n < p.a + t
    · have HC2 := Lib.hid (show checkZ p n = 3 by rw [HC.out, if_pos hlt])
      go_enter Tryz.func137, Tryz.ntmps137
      go_wp2_with fail
      rw [← hw1] at c0 c1 c2 HB ⊢
      clear hw1
      refine (HT.out _).mono ?_
      rintro e w2 ⟨rfl, hb2⟩
      replace c0 := (hb2.cell (p := ⟨w.heap.size, 0, none⟩) hl).trans c0
      have HB2 := Lib.hid (Below_nx HB.out hb2)
      clear hb2
      go_wp2_with fail
      go_ret
      exact ⟨by rw [HC2.out]; rfl, HB2.out⟩
    · have HC2 := Lib.hid (show checkZ p n = 0 by rw [HC.out, if_neg hlt])
      go_enter Tryz.func137, Tryz.ntmps137
      go_wp2_with fail
      rw [← hw1] at c0 c1 c2 HB ⊢
      clear hw1
      refine (HT.out _).mono ?_
      rintro e w2 ⟨rfl, hb2⟩
      replace c0 := (hb2.cell (p := ⟨w.heap.size, 0, none⟩) hl).trans c0
      have HB2 := Lib.hid (Below_nx HB.out hb2)
      clear hb2
      go_wp2_with fail
      go_ret
      exact ⟨by rw [HC2.out]; rfl, HB2.out⟩
  · have HC := Lib.hid (show checkZ p n = 2 by unfold checkZ; rw [okZ_no p h]; rfl)
    rw [HC.out]
    unfold planV
    by_cases h1 : 0 ≤ p.a
    · by_cases h2 : p.a ≤ 8192
      · by_cases h3 : 1 ≤ p.l
        · by_cases h4 : p.l ≤ 1026
          · by_cases h5 : 0 ≤ p.s
            · have h6 : ¬ p.s ≤ 64 := fun q => h ⟨h1, h2, h3, h4, h5, q⟩
              clear h
              go_enter Tryz.func137, Tryz.ntmps137
              go_wp2
              go_ret
              exact ⟨rfl, HB.out⟩
            · clear h
              go_enter Tryz.func137, Tryz.ntmps137
              go_wp2
              go_ret
              exact ⟨rfl, HB.out⟩
          · clear h
            go_enter Tryz.func137, Tryz.ntmps137
            go_wp2
            go_ret
            exact ⟨rfl, HB.out⟩
        · clear h
          go_enter Tryz.func137, Tryz.ntmps137
          go_wp2
          go_ret
          exact ⟨rfl, HB.out⟩
      · clear h
        go_enter Tryz.func137, Tryz.ntmps137
        go_wp2
        go_ret
        exact ⟨rfl, HB.out⟩
    · clear h
      go_enter Tryz.func137, Tryz.ntmps137
      go_wp2
      go_ret
      exact ⟨rfl, HB.out⟩
end Go.Proofs.YtjbhallhmnahbaaGreat
