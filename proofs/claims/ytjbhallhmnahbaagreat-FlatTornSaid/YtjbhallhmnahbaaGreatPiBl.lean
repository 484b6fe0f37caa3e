/-
  PiBl: FlW, FlXa, SpBa, PmRa, PmRb.
-/
import Derived.Test.YtjbhallhmnahbaaGreatPiBk
import Derived.Test.YtjbhallhmnahbaaGreatPiAq
import Derived.Test.YtjbhallhmnahbaaGreatPiAt
import Derived.Test.YtjbhallhmnahbaaGreatPiAg
import Derived.StillTailTactics

set_option linter.unusedVariables false

/-
  Layer 9: the law's full, its examples.
-/
namespace Go.Proofs.YtjbhallhmnahbaaGreat
open Go.RowKit
set_option linter.unusedVariables false

set_option maxRecDepth 20000 in
set_option maxHeartbeats 2000000 in
theorem full09 (s : ByteArray) (w : World) (hs : s.size ≤ 4611686018427387904) :
    Calls Tryz.prog 19 #[.string s] w fun e w' => e = .returned (.string (fullS s)) ∧ Gr [] w w' := by
  go_enter Tryz.func19, Tryz.ntmps19
  go_wp2_with fail
  refine (repeat64 _).mono ?_
  rintro e w1 ⟨rfl, g1⟩
  have HG := Lib.hid g1
  clear g1
  go_wp2_with fail
  go_ret
  exact ⟨by rw [← extract_full]; rfl, HG.out⟩
def C9 : CfgZ := ⟨2, 4, 0, 3, 77⟩
theorem regS9 : regS C9 = 6 := by
  obtain ⟨_, h⟩ := regS_ok (C := C9) (by unfold okP C9; simp only; omega)
  rw [h]
  rfl
theorem ok9 : OkC C9 := ⟨by decide, by decide, by unfold okP C9; simp only; omega, by decide, by rw [regS9]; decide⟩
theorem size9 : sizeC C9 = 13 := by rw [ok9.size, regS9]; rfl
theorem nought_word {k : Nat} (h : k < 8) : wdL (fullS ⟨#[]⟩).data.toList k = 0 := by
  rcases (show k = 0 ∨ k = 1 ∨ k = 2 ∨ k = 3 ∨ k = 4 ∨ k = 5 ∨ k = 6 ∨ k = 7 by omega) with rfl | rfl | rfl | rfl | rfl | rfl | rfl | rfl <;> decide +kernel
theorem newD_gud (n : Nat) : Gud n (newD n) ∧ Calm (newD n) ∧ Bd (newD n) 0 := ⟨⟨⟨rfl, fun _ => rfl⟩, rfl, rfl⟩, ⟨rfl, rfl, fun _ => rfl⟩, ⟨Nat.le_refl _, fun _ => ⟨by show (0 : Int) ≤ 0; omega, by show (0 : Int) ≤ 0; omega⟩⟩⟩
/-- Make of a new device. -/
theorem fl_new {C : CfgZ} (hC : OkC C) {n : Nat} (hn : sizeC C ≤ (n : Int)) (w : World) (a : DevA) (h : DevIs w a (newD n)) :
    Calls Tryz.prog 13 #[.pointer (some ⟨a.bd, 0, none⟩), cfgV C] w fun e w' => e = .returned (.int .i64 0) ∧ DevIs w' a (makeZ C (newD n)).2 ∧ FlD C true (fun _ _ => 0) (vOf C (fun _ => B0) (fun _ => 0) (iL C)) 200000 (makeZ C (newD n)).2 (fun _ => B0) (fun _ => 0) ∧ Gr a.all w w' := by
  obtain ⟨g1, g2, g3⟩ := newD_gud n
  obtain ⟨m1, m2, m3, m4⟩ := fl_made (N := 200000) hC hn g2 g1
  have n4 := hC.nums
  refine (fmake_any h hC hn g1 g3 (by omega)).mono ?_
  rintro e w2 ⟨rfl, d2, b2, g2⟩
  exact ⟨by rw [m1], d2, m4 (b2.mono (by omega)), g2⟩
theorem lnF_is {C : CfgZ} {A : FlA} {a : DevA} {g : Bool} {F : Nat → Nat → Nat} {V : FlV} {N : Nat} {w : World} (h : FL C A a g F V N w) {l : Nat} (hl : l < cR C * cL C) {s : ByteArray} (hs : s.size = 64) (hF : ∀ k, k < 8 → F l k = wdL s.data.toList k) : lnF F l = s := by
  obtain ⟨h1, h2⟩ := h.size l hl
  exact bytes_eq h1 hs fun k hk => (h2 k hk).trans (hF k hk)
set_option maxRecDepth 100000 in
set_option maxHeartbeats 8000000 in
theorem wakes09 (w : World) : Calls Tryz.prog 12 #[] w fun e w' => e = .returned (.bool true) ∧ Gr [] w w' := by
  have HFx := Lib.hid (fun W => full09 ⟨#[120]⟩ W (by show 1 ≤ _; omega))
  have HF0 := Lib.hid (fun W => full09 ⟨#[]⟩ W (by show 0 ≤ _; omega))
  obtain ⟨X, hX⟩ : ∃ A, A = fullS ⟨#[120]⟩ := ⟨_, rfl⟩
  obtain ⟨Y, hY⟩ : ∃ A, A = fullS ⟨#[]⟩ := ⟨_, rfl⟩
  have HX := Lib.hid (show X.size = 64 by rw [hX]; exact fullS_size _)
  have HY := Lib.hid (show Y.size = 64 ∧ ∀ k, k < 8 → wdL Y.data.toList k = 0 by rw [hY]; exact ⟨fullS_size _, fun k hk => nought_word hk⟩)
  rw [← hX] at HFx
  rw [← hY] at HF0
  have HMk := Lib.hid (fun W a (d : DevIs W a (newD 13)) => show Calls Tryz.prog 13 #[.pointer (some ⟨a.bd, 0, none⟩), .agg #[.int .i64 2, .int .i64 4, .int .i64 0, .int .i64 3, .int .u64 77]] W _ from fl_new ok9 (by rw [size9]; decide) W a d)
  have HSz := Lib.hid (fun W => show Calls Tryz.prog 37 #[.agg #[.int .i64 2, .int .i64 4, .int .i64 0, .int .i64 3, .int .u64 77]] W (fun e w' => e = .returned (.int .i64 13) ∧ Gr [] W w') from by have := csize_any C9 ok9.wf.1 W; rw [size9] at this; exact this)
  have HH := Lib.hid (Holds.new w #[.int .i64 2, .int .i64 4, .int .i64 0, .int .i64 3, .int .u64 77] 37)
  have HG0 := Lib.hid ((Gr.refl [] w).alloc (Obj.cells #[.int .i64 2, .int .i64 4, .int .i64 0, .int .i64 3, .int .u64 77] 37))
  have hneq : ∀ W : World, (binOp .neq 37 (.agg #[.int .i64 2, .int .i64 4, .int .i64 0, .int .i64 3, .int .u64 77]) (.agg #[.int .i64 2, .int .i64 4, .int .i64 0, .int .i64 3, .int .u64 77])).run Tryz.prog W = .ok (.bool false) W := fun W => by kernel_rfl
  clear hX hY
  go_enter Tryz.func12, Tryz.ntmps12
  go_upto_region 2 with fail
  generalize (w.alloc (Obj.cells #[.int .i64 2, .int .i64 4, .int .i64 0, .int .i64 3, .int .u64 77] 37)) = w1 at *
  obtain ⟨pb, hpb⟩ : ∃ pb, w.heap.size = pb := ⟨_, rfl⟩
  rw [hpb] at HH ⊢
  clear hpb
  go_wp2_with fail
  refine (pmnew_yes 13 _ (by omega) (by omega)).mono ?_
  rintro e w2 ⟨a, rfl, d2, hlo, g2⟩
  have HLO := Lib.hid (show ∀ x ∈ a.all, w.heap.size ≤ x from fun x hx => Nat.le_trans HG0.out.size (hlo x hx))
  have HNP := Lib.hid (show pb ∉ a.all from fun q => by have := hlo _ q; have := HH.out.lt; omega)
  have H2 := Lib.hid (And.intro d2 (And.intro (HH.out.gr0 g2) (HG0.out.trans g2)))
  have c0 := H2.out.2.1.cell 0
  have c1 := H2.out.2.1.cell 1
  have c2 := H2.out.2.1.cell 2
  have c3 := H2.out.2.1.cell 3
  have c4 := H2.out.2.1.cell 4
  clear d2 g2 hlo HH HG0
  go_wp2_with fail
  with_reducible refine (HMk.out _ a H2.out.1).mono ?_
  rintro e w3 ⟨rfl, d3, f3, g3⟩
  have H3 := Lib.hid (And.intro d3 (And.intro (H2.out.2.1.gr g3 HNP.out) (And.intro (H2.out.2.2.nextN g3 fun x hx => .inr (HLO.out x hx)) f3)))
  clear d3 f3 g3 c0 c1 c2 c3 c4 H2 HMk
  go_wp2_with fail
  refine (fl_open ok9 H3.out.2.2.2 (by omega) H3.out.1).mono ?_
  rintro e w4 ⟨A, rfl, f4, n4, g4⟩
  have HNA := Lib.hid (show ∀ x ∈ A.all (cR C9) ++ a.all, w.heap.size ≤ x from fun x hx => by
    rcases List.mem_append.1 hx with hx | hx
    · exact Nat.le_trans H3.out.2.2.1.size (n4 x hx)
    · exact HLO.out x hx)
  have H4 := Lib.hid (And.intro f4 (And.intro (H3.out.2.1.gr0 g4) (H3.out.2.2.1.trans g4)))
  clear f4 n4 g4 H3
  have k0 := kp_cell (H4.out.2.1.cell 0)
  have k1 := kp_cell (H4.out.2.1.cell 1)
  have k2 := kp_cell (H4.out.2.1.cell 2)
  have k3 := kp_cell (H4.out.2.1.cell 3)
  have k4 := kp_cell (H4.out.2.1.cell 4)
  have hne := kp_ne w4
  go_wp2_with fail
  have HLn := Lib.hid (fun (x : Cls (Kp w4)) => show Calls Tryz.prog 30 #[.pointer (some ⟨A.fb, 0, none⟩)] x.w (fun e w' => e = .returned (.int .i64 8) ∧ Below x.w.heap.size x.w w') from ((H4.out.1.gr0 (Gr.ofBelow x.h)).lines).mono fun _ _ q => ⟨q.1, q.2.below0⟩)
  have HCn := Lib.hid (fun (x : Cls (Kp w4)) => show Calls Tryz.prog 39 #[.pointer (some ⟨A.fb, 0, none⟩)] x.w (fun e w' => e = .returned (.agg #[.int .i64 2, .int .i64 4, .int .i64 0, .int .i64 3, .int .u64 77]) ∧ Below x.w.heap.size x.w w') from ((H4.out.1.gr0 (Gr.ofBelow x.h)).config).mono fun _ _ q => ⟨q.1, q.2.below0⟩)
  refine wp_region_kp (by kernel_rfl) (by kernel_rfl) ?_
  repeat (go_big_quiet_step ((rename_i x; first
    | with_reducible exact kp_call x (HLn.out x)
    | with_reducible exact kp_call x (HCn.out x)
    | with_reducible exact kp_call x ((HSz.out _).mono fun _ _ q => ⟨q.1, q.2.below0⟩))))
  with_reducible refine wpQuiet_nil ?_
  rintro _ ⟨y, rfl⟩
  have gy : Gr [] w4 y.w := Gr.ofBelow (cs := []) y.h
  have H5 := Lib.hid (And.intro (H4.out.1.gr0 gy) (H4.out.2.2.trans gy))
  clear k0 k1 k2 k3 k4 hne gy H4 HLn HCn hneq HSz
  generalize y.w = w5 at *
  clear y
  go_wp2_with fail
  with_reducible refine (HFx.out _).mono ?_
  rintro e w6 ⟨rfl, g6⟩
  have H6 := Lib.hid (And.intro (H5.out.1.gr0 g6) (H5.out.2.trans g6))
  clear g6 H5
  go_wp2_with fail
  refine (H6.out.1.put (by omega) 5 (by decide) X HX.out).mono ?_
  rintro e w7 ⟨x, V', rfl, hx, g7⟩
  rcases hx with ⟨rfl, f7⟩ | ⟨_, hf, _⟩
  case inr => exact absurd hf (by decide)
  have H7 := Lib.hid (And.intro f7 (H6.out.2.nextN g7 fun x hx => .inr (HNA.out x hx)))
  clear f7 g7 H6
  go_wp2_with fail
  refine (H7.out.1.read 5 (by decide)).mono ?_
  rintro e w8 ⟨rfl, g8⟩
  have H8 := Lib.hid (And.intro (H7.out.1.gr0 g8) (H7.out.2.trans g8))
  clear g8 H7
  rw [lnF_is H8.out.1 (by decide) HX.out (fun k hk => if_pos rfl)]
  go_wp2_with fail
  refine (H8.out.1.read 4 (by decide)).mono ?_
  rintro e w9 ⟨rfl, g9⟩
  have H9 := Lib.hid (And.intro (H8.out.1.gr0 g9) (H8.out.2.trans g9))
  clear g9 H8
  rw [lnF_is H9.out.1 (by decide) HY.out.1 (fun k hk => by rw [if_neg (by decide), HY.out.2 k hk])]
  have HRg := Lib.hid (fun W (g : Gr [] w9 W) => show Calls Tryz.prog 40 #[.pointer (some ⟨A.fb, 0, none⟩), .int .i64 5] W (fun e w' => e = .returned (.int .i64 1) ∧ Gr [] W w') from (H9.out.1.gr0 g).region 5 (by decide))
  go_wp2_with fail
  with_reducible refine (HFx.out _).mono ?_
  rintro e wa ⟨rfl, ga⟩
  have HA := Lib.hid ga
  clear ga
  go_wp2_with fail
  with_reducible refine (HF0.out _).mono ?_
  rintro e wb ⟨rfl, gb⟩
  have HB := Lib.hid (HA.out.trans gb)
  clear gb HA
  go_wp2_with fail
  with_reducible refine (HRg.out _ HB.out).mono ?_
  rintro e wc ⟨rfl, gc⟩
  have HF := Lib.hid (H9.out.2.trans (HB.out.trans gc))
  clear gc HB
  go_wp2_with fail
  go_ret
  exact ⟨rfl, HF.out⟩
end Go.Proofs.YtjbhallhmnahbaaGreat

/-
  FlatAlike: the law's small; a list at work, whatever index it is given.
-/
namespace Go.Proofs.YtjbhallhmnahbaaGreat
open Go.RowKit
set_option linter.unusedVariables false

def smallC (r l s p : Int) (key : Nat) : CfgZ := ⟨1 + mx r % 3, 1 + mx l % 5, mx s % 5, 1 + mx p % 4, key⟩
set_option maxRecDepth 100000 in
set_option maxHeartbeats 4000000 in
theorem small09 (r l s p : Int) (key : Nat) (w : World) : Calls Tryz.prog 8 #[.agg #[.int .i64 r, .int .i64 l, .int .i64 s, .int .i64 p, .int .u64 (key : Int)]] w fun e w' => e = .returned (cfgV (smallC r l s p key)) ∧ Gr [] w w' := by
  have hmx := max0 Tryz.prog
  have h0 := mx_nonneg r
  have h1 := mx_nonneg l
  have h2 := mx_nonneg s
  have h3 := mx_nonneg p
  obtain ⟨r1, e1⟩ : ∃ x, x = mx r % 3 := ⟨_, rfl⟩
  obtain ⟨l1, e2⟩ : ∃ x, x = mx l % 5 := ⟨_, rfl⟩
  obtain ⟨s1, e3⟩ : ∃ x, x = mx s % 5 := ⟨_, rfl⟩
  obtain ⟨p1, e4⟩ : ∃ x, x = mx p % 4 := ⟨_, rfl⟩
  have b1 : IntKind.i64.wrap (1 + mx r % 3) = 1 + mx r % 3 := IntWalk.i64_in _ (by omega)
  have b2 : IntKind.i64.wrap (1 + mx l % 5) = 1 + mx l % 5 := IntWalk.i64_in _ (by omega)
  have b4 : IntKind.i64.wrap (1 + mx p % 4) = 1 + mx p % 4 := IntWalk.i64_in _ (by omega)
  have hb1 := (Holds.new w #[.int .i64 r, .int .i64 l, .int .i64 s, .int .i64 p, .int .u64 (key : Int)] 24).alloc (Obj.cells #[.int .i64 0, .int .i64 0, .int .i64 0, .int .i64 0, .int .u64 0] 26)
  have hb2 := Holds.new (w.alloc (Obj.cells #[.int .i64 r, .int .i64 l, .int .i64 s, .int .i64 p, .int .u64 (key : Int)] 24)) #[.int .i64 0, .int .i64 0, .int .i64 0, .int .i64 0, .int .u64 0] 26
  rw [World.size_alloc] at hb2
  have hg := ((Gr.refl [] w).alloc (Obj.cells #[.int .i64 r, .int .i64 l, .int .i64 s, .int .i64 p, .int .u64 (key : Int)] 24)).alloc (Obj.cells #[.int .i64 0, .int .i64 0, .int .i64 0, .int .i64 0, .int .u64 0] 26)
  have H := Lib.hid (And.intro hb1 (And.intro hb2 hg))
  unfold cfgV smallC
  clear hb1 hb2 hg e1 e2 e3 e4
  go_enter Tryz.func8, Tryz.ntmps8
  go_upto_region 1 with fail
  generalize (w.alloc (Obj.cells #[.int .i64 r, .int .i64 l, .int .i64 s, .int .i64 p, .int .u64 (key : Int)] 24)).alloc (Obj.cells #[.int .i64 0, .int .i64 0, .int .i64 0, .int .i64 0, .int .u64 0] 26) = w1 at *
  obtain ⟨b, hb⟩ : ∃ b, w.heap.size = b := ⟨_, rfl⟩
  have HW := Lib.hid (show w.heap.size ≤ b by omega)
  rw [hb] at H ⊢
  clear hb
  have c0 : w1.cell? ⟨b, 0, none⟩ = some (.int .i64 r) := H.out.1.cell 0
  have c1 : w1.cell? ⟨b, 1, none⟩ = some (.int .i64 l) := H.out.1.cell 1
  have c2 : w1.cell? ⟨b, 2, none⟩ = some (.int .i64 s) := H.out.1.cell 2
  have c3 : w1.cell? ⟨b, 3, none⟩ = some (.int .i64 p) := H.out.1.cell 3
  have c4 : w1.cell? ⟨b, 4, none⟩ = some (.int .u64 (key : Int)) := H.out.1.cell 4
  obtain ⟨b2', hb2'⟩ : ∃ b2', b + 1 = b2' := ⟨_, rfl⟩
  have HW2 := Lib.hid (show w.heap.size ≤ b2' by have := HW.out; omega)
  rw [hb2'] at H ⊢
  clear hb2'
  have d0 : w1.cell? ⟨b2', 0, none⟩ = some (.int .i64 0) := H.out.2.1.cell 0
  have d1 : w1.cell? ⟨b2', 1, none⟩ = some (.int .i64 0) := H.out.2.1.cell 1
  have d2 : w1.cell? ⟨b2', 2, none⟩ = some (.int .i64 0) := H.out.2.1.cell 2
  have d3 : w1.cell? ⟨b2', 3, none⟩ = some (.int .i64 0) := H.out.2.1.cell 3
  have d4 : w1.cell? ⟨b2', 4, none⟩ = some (.int .u64 0) := H.out.2.1.cell 4
  have f0 := H.out.2.1.frozen 0
  have f1 := H.out.2.1.frozen 1
  have f2 := H.out.2.1.frozen 2
  have f3 := H.out.2.1.frozen 3
  have f4 := H.out.2.1.frozen 4
  have HF := Lib.hid (((((H.out.2.2.setCell (p := ⟨b2', 0, none⟩) (.inr HW2.out) (.int .i64 (1 + mx r % 3))).setCell (p := ⟨b2', 1, none⟩) (.inr HW2.out) (.int .i64 (1 + mx l % 5))).setCell (p := ⟨b2', 2, none⟩) (.inr HW2.out) (.int .i64 (mx s % 5))).setCell (p := ⟨b2', 3, none⟩) (.inr HW2.out) (.int .i64 (1 + mx p % 4))).setCell (p := ⟨b2', 4, none⟩) (.inr HW2.out) (.int .u64 (key : Int)))
  go_wp2_with fail
  exact bodyPost_ret (v := .agg #[.int .i64 (1 + mx r % 3), .int .i64 (1 + mx l % 5), .int .i64 (mx s % 5), .int .i64 (1 + mx p % 4), .int .u64 (key : Int)]) (by simp [results, Tryz.results8, go_sem, *]) rfl ⟨rfl, HF.out⟩
theorem smallC_ok (r l s p : Int) (key : Nat) (hk : key < 18446744073709551616) : OkC (smallC r l s p key) ∧ (smallC r l s p key).r ≤ 3 ∧ (smallC r l s p key).l ≤ 5 ∧ sizeC (smallC r l s p key) ≤ 37 := by
  have h0 := mx_nonneg r
  have h1 := mx_nonneg l
  have h2 := mx_nonneg s
  have h3 := mx_nonneg p
  have e1 : (smallC r l s p key).r = 1 + mx r % 3 := rfl
  have e2 : (smallC r l s p key).l = 1 + mx l % 5 := rfl
  have e3 : (smallC r l s p key).s = mx s % 5 := rfl
  have e4 : (smallC r l s p key).psi = 1 + mx p % 4 := rfl
  have ok : okP (smallC r l s p key) := by unfold okP; omega
  obtain ⟨_, hs⟩ := regS_ok ok
  have hrs : 0 ≤ regS (smallC r l s p key) ∧ regS (smallC r l s p key) ≤ 12 := by rw [hs]; omega
  have hm : (smallC r l s p key).r * regS (smallC r l s p key) ≤ 3 * 12 := Int.mul_le_mul (by omega) hrs.2 hrs.1 (by omega)
  have hC : OkC (smallC r l s p key) := ⟨by omega, by omega, ok, hk, by omega⟩
  exact ⟨hC, by omega, by omega, by rw [hC.size]; omega⟩
/-- A list none of whose lines is bad, behind n writes at most. -/
def FQ (C : CfgZ) (A : FlA) (a : DevA) (F : Nat → Nat → Nat) (n : Nat) (w : World) : Prop := ∃ V, FL C A a true F V (200000 + 4200 * n) w
section
variable {w w' : World} {A : FlA} {a : DevA} {C : CfgZ} {F F' : Nat → Nat → Nat} {n : Nat}
theorem FQ.gr {bs : List Nat} (h : FQ C A a F n w) (k : Gr bs w w') (hn : ∀ x ∈ A.all (cR C) ++ a.all, x ∉ bs) : FQ C A a F n w' := h.elim fun V h => ⟨V, h.gr k hn⟩
theorem FQ.gr0 (h : FQ C A a F n w) (k : Gr [] w w') : FQ C A a F n w' := h.elim fun V h => ⟨V, h.gr0 k⟩
theorem FQ.lt (h : FQ C A a F n w) : ∀ x ∈ A.all (cR C) ++ a.all, x < w.heap.size := h.elim fun V h => h.lt
theorem FQ.more {m : Nat} (h : FQ C A a F n w) (hm : n ≤ m) : FQ C A a F m w := h.elim fun V h => ⟨V, h.more (by omega)⟩
theorem FQ.put (h : FQ C A a F n w) (hn : n < 69) (i : Int) (s : ByteArray) (hs : s.size = 64) :
    Calls Tryz.prog 18 #[.pointer (some ⟨A.fb, 0, none⟩), .int .i64 i, .string s] w fun e w' => e = .returned (.int .i64 (errP (cR C * cL C) i)) ∧ FQ C A a (putF F i s) (n + 1) w' ∧ Gr (A.all (cR C) ++ a.all) w w' := by
  obtain ⟨V, h⟩ := h
  by_cases ho : i < 0 ∨ ((cR C * cL C : Nat) : Int) ≤ i
  · have h' := h
    obtain ⟨ok, D, B, j, c, h1, h2, h3⟩ := h
    refine (fwrite_out i s h2 hs ho).mono ?_
    rintro e w2 ⟨rfl, g⟩
    refine ⟨by unfold errP; rw [if_pos ho], ⟨V, ((h'.gr0 g).congr (fun l k hl _ => ?_)).more (by omega)⟩, g.of0⟩
    unfold putF
    rw [if_neg (by omega)]
  · obtain ⟨l, rfl⟩ : ∃ l : Nat, i = (l : Int) := ⟨i.toNat, by omega⟩
    refine (h.put (by omega) l (by omega) s hs).mono ?_
    rintro e w2 ⟨x, V', rfl, hx, g⟩
    rcases hx with ⟨rfl, r⟩ | ⟨_, hf, _⟩
    · refine ⟨by unfold errP; rw [if_neg ho], ⟨V', (r.congr (fun l2 k _ _ => ?_)).more (by omega)⟩, g⟩
      unfold putF
      by_cases e : l2 = l
      · rw [if_pos e, if_pos (by omega)]
      · rw [if_neg e, if_neg (by omega)]
    · exact absurd hf (by decide)
theorem FQ.read (h : FQ C A a F n w) (l : Nat) (hl : l < cR C * cL C) :
    Calls Tryz.prog 22 #[.pointer (some ⟨A.fb, 0, none⟩), .int .i64 (l : Int)] w fun e w' => e = .returned (.tuple #[.string (lnF F l), .int .i64 0]) ∧ Gr [] w w' := h.elim fun V h => h.read l hl
end
end Go.Proofs.YtjbhallhmnahbaaGreat

/-
  Layer 5, pure: the marks of a table, and where they say that a line is.
-/
namespace Go.Proofs.YtjbhallhmnahbaaGreat
open Go.RowKit
set_option linter.unusedVariables false

def okM (p : PlanZ) (m : Nat) : Prop := m ≠ 0 ∧ m < 281474976710656 ∧ ((m : Int) ≤ p.l ∨ m = 65535)
/-- The table's marks: the words that aren't noughts, the first ones. -/
structure Marks (p : PlanZ) (D : DevS) (l : List Nat) : Prop where
  len : (l.length : Int) ≤ p.s
  each : ∀ (j m : Nat), l[j]? = some m → loadV D (8 * p.a.toNat + j) = guardN m ∧ okM p m
  zero : ∀ j : Nat, l.length ≤ j → (j : Int) < p.s → loadV D (8 * p.a.toNat + j) = 0
section
variable {p : PlanZ} {D : DevS} {B : BkS}
end
end Go.Proofs.YtjbhallhmnahbaaGreat

/-
  The reference of layer 3: its words in memory against the device's state.
-/
namespace Go.Proofs.YtjbhallhmnahbaaGreat
open Go.RowKit

/-- The blocks of the reference. -/
structure RefA where
  rd : Nat
  rw : Nat
  rr : Nat
  rb : Nat
def RefA.all (r : RefA) : List Nat := [r.rd, r.rw, r.rr, r.rb]
structure WordS where
  m : Nat
  t : Bool
  v : Nat
  f : Bool
def wcell (ws : Nat → WordS) (k : Nat) : Value := if k % 4 = 0 then .int .u64 ((ws (k / 4)).m : Int) else if k % 4 = 1 then .bool (ws (k / 4)).t else if k % 4 = 2 then .int .u64 ((ws (k / 4)).v : Int) else .bool (ws (k / 4)).f
theorem wcell0 (ws : Nat → WordS) (i : Nat) : wcell ws (i * 4) = .int .u64 ((ws i).m : Int) := by unfold wcell; rw [if_pos (by omega), show i * 4 / 4 = i by omega]
theorem wcell1 (ws : Nat → WordS) (i : Nat) : wcell ws (i * 4 + 1) = .bool (ws i).t := by unfold wcell; rw [if_neg (by omega), if_pos (by omega), show (i * 4 + 1) / 4 = i by omega]
theorem wcell2 (ws : Nat → WordS) (i : Nat) : wcell ws (i * 4 + 2) = .int .u64 ((ws i).v : Int) := by unfold wcell; rw [if_neg (by omega), if_neg (by omega), if_pos (by omega), show (i * 4 + 2) / 4 = i by omega]
theorem wcell3 (ws : Nat → WordS) (i : Nat) : wcell ws (i * 4 + 3) = .bool (ws i).f := by unfold wcell; rw [if_neg (by omega), if_neg (by omega), if_neg (by omega), show (i * 4 + 3) / 4 = i by omega]
def updW (ws : Nat → WordS) (i : Nat) (x : WordS) : Nat → WordS := fun j => if j = i then x else ws j
theorem wcell_upd (ws : Nat → WordS) (i d : Nat) (x : WordS) (u : Value) (_ : d < 4) (hu : wcell (updW ws i x) (i * 4 + d) = u) (ho : ∀ e, e < 4 → e ≠ d → wcell (updW ws i x) (i * 4 + e) = wcell ws (i * 4 + e)) (k : Nat) : (if k = i * 4 + d then u else wcell ws k) = wcell (updW ws i x) k := by
  by_cases e : k = i * 4 + d
  · rw [if_pos e, e, hu]
  · rw [if_neg e]
    by_cases q : k / 4 = i
    · have hk : k = i * 4 + k % 4 := by omega
      rw [hk]
      exact (ho (k % 4) (by omega) (by omega)).symm
    · unfold wcell updW
      rw [if_neg q]
theorem updW_same (ws : Nat → WordS) (i : Nat) (x : WordS) : updW ws i x i = x := by unfold updW; rw [if_pos rfl]
theorem wcell_t (ws : Nat → WordS) (i : Nat) (t : Bool) (k : Nat) : (if k = i * 4 + 1 then Value.bool t else wcell ws k) = wcell (updW ws i { ws i with t := t }) k :=
  wcell_upd ws i 1 { ws i with t := t } _ (by omega) (by rw [wcell1, updW_same]) (fun e h1 h2 => by
    rcases (show e = 0 ∨ e = 2 ∨ e = 3 by omega) with rfl | rfl | rfl
    · rw [Nat.add_zero, wcell0, wcell0, updW_same]
    · rw [wcell2, wcell2, updW_same]
    · rw [wcell3, wcell3, updW_same]) k
/-- What the reference's head and rows hold. -/
structure RefC where
  n : Nat
  ws : Nat → WordS
  wear : Nat → Int
  bad : Nat → Bool
  fuse : Int
  off : Bool
  cnt : Nat
def headR (r : RefA) (R : RefC) : Array Value :=
  #[.slice (some ⟨r.rw, 0, none⟩) (8 * R.n) (8 * R.n), .slice (some ⟨r.rr, 0, none⟩) R.n R.n, .slice (some ⟨r.rb, 0, none⟩) R.n R.n, .int .i64 R.fuse, .bool R.off, .int .i64 (R.cnt : Int)]
structure RefRow (W : World) (r : RefA) (R : RefC) : Prop where
  head : Holds W r.rd (headR r R) 63
  words : Holds W r.rw (rowOf (wcell R.ws) (4 * (8 * R.n))) 148
  wear : Holds W r.rr (rowOf (fun i => .int .i64 (R.wear i)) R.n) 3
  bad : Holds W r.rb (rowOf (fun i => .bool (R.bad i)) R.n) 4
  nd : r.all.Nodup
  lo : 1 ≤ R.n
  hi : R.n ≤ 8192
section
variable {W W' : World} {r : RefA} {R : RefC}
theorem RefRow.gr {bs : List Nat} (h : RefRow W r R) (g : Gr bs W W') (hn : ∀ b ∈ r.all, b ∉ bs) : RefRow W' r R :=
  ⟨h.head.gr g (hn _ (by simp [RefA.all])), h.words.gr g (hn _ (by simp [RefA.all])), h.wear.gr g (hn _ (by simp [RefA.all])), h.bad.gr g (hn _ (by simp [RefA.all])), h.nd, h.lo, h.hi⟩
theorem RefRow.gr0 (h : RefRow W r R) (g : Gr [] W W') : RefRow W' r R := h.gr g (by simp)
theorem RefRow.lt (h : RefRow W r R) : ∀ b ∈ r.all, b < W.heap.size := by
  intro b hb
  simp only [RefA.all, List.mem_cons, List.not_mem_nil, or_false] at hb
  rcases hb with rfl | rfl | rfl | rfl
  · exact h.head.lt
  · exact h.words.lt
  · exact h.wear.lt
  · exact h.bad.lt
theorem RefRow.ne (h : RefRow W r R) : r.rd ≠ r.rw ∧ r.rd ≠ r.rr ∧ r.rd ≠ r.rb ∧ r.rw ≠ r.rr ∧ r.rw ≠ r.rb ∧ r.rr ≠ r.rb := by
  have := h.nd
  simp [RefA.all] at this
  exact ⟨this.1.1, this.1.2.1, this.1.2.2, this.2.1.1, this.2.1.2, this.2.2⟩
theorem RefRow.c0 (h : RefRow W r R) : W.cell? ⟨r.rd, 0, none⟩ = some (.slice (some ⟨r.rw, 0, none⟩) (8 * R.n) (8 * R.n)) := h.head.cell 0
theorem RefRow.c1 (h : RefRow W r R) : W.cell? ⟨r.rd, 1, none⟩ = some (.slice (some ⟨r.rr, 0, none⟩) R.n R.n) := h.head.cell 1
theorem RefRow.c2 (h : RefRow W r R) : W.cell? ⟨r.rd, 2, none⟩ = some (.slice (some ⟨r.rb, 0, none⟩) R.n R.n) := h.head.cell 2
theorem RefRow.c3 (h : RefRow W r R) : W.cell? ⟨r.rd, 3, none⟩ = some (.int .i64 R.fuse) := h.head.cell 3
theorem RefRow.c4 (h : RefRow W r R) : W.cell? ⟨r.rd, 4, none⟩ = some (.bool R.off) := h.head.cell 4
theorem RefRow.c5 (h : RefRow W r R) : W.cell? ⟨r.rd, 5, none⟩ = some (.int .i64 (R.cnt : Int)) := h.head.cell 5
theorem RefRow.fr (h : RefRow W r R) (i : Nat) : W.frozen? ⟨r.rd, i, none⟩ = false := h.head.frozen i
theorem RefRow.wm (h : RefRow W r R) {i : Nat} (hi : i < 8 * R.n) : W.cell? ⟨r.rw, i * 4, none⟩ = some (.int .u64 ((R.ws i).m : Int)) := by rw [h.words.cell, rowOf_get _ _ _ (by omega), wcell0]
theorem RefRow.wf (h : RefRow W r R) {i : Nat} (hi : i < 8 * R.n) : W.cell? ⟨r.rw, i * 4 + 3, none⟩ = some (.bool (R.ws i).f) := by rw [h.words.cell, rowOf_get _ _ _ (by omega), wcell3]
theorem RefRow.wz (h : RefRow W r R) (i : Nat) : W.frozen? ⟨r.rw, i, none⟩ = false := h.words.frozen i
theorem RefRow.wearAt (h : RefRow W r R) {i : Nat} (hi : i < R.n) : W.cell? ⟨r.rr, i, none⟩ = some (.int .i64 (R.wear i)) := by rw [h.wear.cell, rowOf_get _ _ _ hi]
theorem RefRow.badAt (h : RefRow W r R) {i : Nat} (hi : i < R.n) : W.cell? ⟨r.rb, i, none⟩ = some (.bool (R.bad i)) := by rw [h.bad.cell, rowOf_get _ _ _ hi]
theorem RefRow.setHead (h : RefRow W r R) {i : Nat} {u : Value} {R' : RefC} (e : (headR r R).setIfInBounds i u = headR r R') (hn : R'.n = R.n) (hw : R'.ws = R.ws) (hr : R'.wear = R.wear) (hb : R'.bad = R.bad) : RefRow (W.setCell ⟨r.rd, i, none⟩ u) r R' := by
  obtain ⟨n1, n2, n3, n4, n5, n6⟩ := h.ne
  have g := grSet W r.rd i u
  have hh := h.head.set i u
  rw [e] at hh
  refine ⟨hh, ?_, ?_, ?_, h.nd, by rw [hn]; exact h.lo, by rw [hn]; exact h.hi⟩
  · rw [hn, hw]; exact h.words.gr g (by simpa using n1.symm)
  · rw [hn, hr]; exact h.wear.gr g (by simpa using n2.symm)
  · rw [hn, hb]; exact h.bad.gr g (by simpa using n3.symm)
theorem RefRow.setFuse (h : RefRow W r R) (x : Int) : RefRow (W.setCell ⟨r.rd, 3, none⟩ (.int .i64 x)) r { R with fuse := x } := h.setHead rfl rfl rfl rfl rfl
theorem RefRow.setOff (h : RefRow W r R) (x : Bool) : RefRow (W.setCell ⟨r.rd, 4, none⟩ (.bool x)) r { R with off := x } := h.setHead rfl rfl rfl rfl rfl
theorem RefRow.setCnt (h : RefRow W r R) (x : Nat) : RefRow (W.setCell ⟨r.rd, 5, none⟩ (.int .i64 (x : Int))) r { R with cnt := x } := h.setHead rfl rfl rfl rfl rfl
theorem RefRow.setWord (h : RefRow W r R) {k : Nat} {u : Value} {ws' : Nat → WordS} (e : ∀ j, (if j = k then u else wcell R.ws j) = wcell ws' j) : RefRow (W.setCell ⟨r.rw, k, none⟩ u) r { R with ws := ws' } := by
  obtain ⟨n1, n2, n3, n4, n5, n6⟩ := h.ne
  have g := grSet W r.rw k u
  refine ⟨h.head.gr g (by simpa using n1), ?_, h.wear.gr g (by simpa using n4.symm), h.bad.gr g (by simpa using n5.symm), h.nd, h.lo, h.hi⟩
  have hh := h.words.set k u
  rw [rowOf_set, rowOf_congr (g' := wcell ws') (fun j _ => e j)] at hh
  exact hh
theorem RefRow.setT (h : RefRow W r R) (i : Nat) (t : Bool) : RefRow (W.setCell ⟨r.rw, i * 4 + 1, none⟩ (.bool t)) r { R with ws := updW R.ws i { R.ws i with t := t } } := h.setWord (wcell_t R.ws i t)
theorem RefRow.setWear (h : RefRow W r R) (i : Nat) (x : Int) : RefRow (W.setCell ⟨r.rr, i, none⟩ (.int .i64 x)) r { R with wear := fun j => if j = i then x else R.wear j } := by
  obtain ⟨n1, n2, n3, n4, n5, n6⟩ := h.ne
  have g := grSet W r.rr i (.int .i64 x)
  refine ⟨h.head.gr g (by simpa using n2), h.words.gr g (by simpa using n4), ?_, h.bad.gr g (by simpa using n6.symm), h.nd, h.lo, h.hi⟩
  have hh := h.wear.set i (.int .i64 x)
  rw [rowOf_set, rowOf_congr (g' := fun j => .int .i64 (if j = i then x else R.wear j)) (fun j _ => by split <;> rfl)] at hh
  exact hh
end

/-- The reference's words say what the device's state says. -/
structure Says (D : DevS) (R : RefC) : Prop where
  n : R.n = D.n
  wear : ∀ l, l < D.n → R.wear l = D.wear l
  bad : ∀ l, l < D.n → R.bad l = D.bad l
  fuse : R.fuse = D.fuse
  off : R.off = D.off
  cnt : R.cnt = D.cnt
  med : ∀ i, i < 8 * D.n → (R.ws i).m = D.med i
  buf : ∀ i : Nat, i < 8 * D.n → (D.buf (i : Int) = none ∧ (R.ws i).t = false) ∨ (D.buf (i : Int) = some ((R.ws i).v, (R.ws i).f) ∧ (R.ws i).t = true)
def RefIs (W : World) (r : RefA) (D : DevS) : Prop := ∃ R, RefRow W r R ∧ Says D R
theorem RefIs.gr {W W' : World} {r : RefA} {D : DevS} {bs : List Nat} (h : RefIs W r D) (g : Gr bs W W') (hn : ∀ b ∈ r.all, b ∉ bs) : RefIs W' r D := by
  obtain ⟨R, h1, h2⟩ := h
  exact ⟨R, h1.gr g hn, h2⟩
theorem RefIs.gr0 {W W' : World} {r : RefA} {D : DevS} (h : RefIs W r D) (g : Gr [] W W') : RefIs W' r D := h.gr g (by simp)
theorem RefIs.lt {W : World} {r : RefA} {D : DevS} (h : RefIs W r D) : ∀ b ∈ r.all, b < W.heap.size := by
  obtain ⟨R, h1, h2⟩ := h
  exact h1.lt

end Go.Proofs.YtjbhallhmnahbaaGreat

/-
  The reference of layer 3: begin, Load, Store, Flush.
-/
namespace Go.Proofs.YtjbhallhmnahbaaGreat
open Go.RowKit

def reachR (R : RefC) (t : Bool) : Int := if R.off then 6 else if t then 0 else 3
def begE (R : RefC) (t : Bool) : Int := if reachR R t ≠ 0 then reachR R t else if R.fuse = 1 then 6 else 0
def litR (R : RefC) : RefC := { R with fuse := if 1 < R.fuse then R.fuse - 1 else R.fuse, cnt := R.cnt + 1 }
def begR (R : RefC) (t : Bool) : RefC := if reachR R t ≠ 0 then R else if R.fuse = 1 then { R with fuse := 0, off := true } else litR R

/-! ### Load -/
/-! ### Store -/
def storeW (ws : Nat → WordS) (i v : Nat) : Nat → WordS := updW ws i { m := (ws i).m, t := true, v := v, f := false }
def storeR (R : RefC) (z : Int) (v : Nat) : RefC := if begE R (decide (0 ≤ z ∧ z < 8 * R.n)) = 0 then { litR R with ws := storeW R.ws z.toNat v } else begR R (decide (0 ≤ z ∧ z < 8 * R.n))
end Go.Proofs.YtjbhallhmnahbaaGreat
