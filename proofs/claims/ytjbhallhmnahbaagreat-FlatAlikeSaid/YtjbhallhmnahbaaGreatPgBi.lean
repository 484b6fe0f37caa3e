/-
  PgBi: FlW, FlXa, FrameN.
-/
import Derived.Test.YtjbhallhmnahbaaGreatPgBh
import Derived.Test.YtjbhallhmnahbaaGreatPgAn
import Derived.Test.YtjbhallhmnahbaaGreatPgAw
import Derived.Test.YtjbhallhmnahbaaGreatPgAa

/-
  Layer 9: the law's full, its examples.
-/
namespace Go.Proofs.YtjbhallhmnahbaaGreat
open Go.RowKit
set_option linter.unusedVariables false

set_option maxRecDepth 20000 in
set_option maxHeartbeats 2000000 in
theorem full09 (s : ByteArray) (w : World) (hs : s.size ≤ 4611686018427387904) :
    Calls Tryz.prog 19 #[.string s] w fun e w' => e = .returned (.string (fullS s)) ∧ Gr [] w w' := by
  go_enter Tryz.func19, Tryz.ntmps19
  go_wp2_with fail
  refine (repeat64 _).mono ?_
  rintro e w1 ⟨rfl, g1⟩
  have HG := Lib.hid g1
  clear g1
  go_wp2_with fail
  go_ret
  exact ⟨by rw [← extract_full]; rfl, HG.out⟩
def C9 : CfgZ := ⟨2, 4, 0, 3, 77⟩
theorem regS9 : regS C9 = 6 := by
  obtain ⟨_, h⟩ := regS_ok (C := C9) (by unfold okP C9; simp only; omega)
  rw [h]
  rfl
theorem ok9 : OkC C9 := ⟨by decide, by decide, by unfold okP C9; simp only; omega, by decide, by rw [regS9]; decide⟩
theorem size9 : sizeC C9 = 13 := by rw [ok9.size, regS9]; rfl
theorem nought_word {k : Nat} (h : k < 8) : wdL (fullS ⟨#[]⟩).data.toList k = 0 := by
  rcases (show k = 0 ∨ k = 1 ∨ k = 2 ∨ k = 3 ∨ k = 4 ∨ k = 5 ∨ k = 6 ∨ k = 7 by omega) with rfl | rfl | rfl | rfl | rfl | rfl | rfl | rfl <;> decide +kernel
theorem newD_gud (n : Nat) : Gud n (newD n) ∧ Calm (newD n) ∧ Bd (newD n) 0 := ⟨⟨⟨rfl, fun _ => rfl⟩, rfl, rfl⟩, ⟨rfl, rfl, fun _ => rfl⟩, ⟨Nat.le_refl _, fun _ => ⟨by show (0 : Int) ≤ 0; omega, by show (0 : Int) ≤ 0; omega⟩⟩⟩
/-- Make of a new device. -/
theorem fl_new {C : CfgZ} (hC : OkC C) {n : Nat} (hn : sizeC C ≤ (n : Int)) (w : World) (a : DevA) (h : DevIs w a (newD n)) :
    Calls Tryz.prog 13 #[.pointer (some ⟨a.bd, 0, none⟩), cfgV C] w fun e w' => e = .returned (.int .i64 0) ∧ DevIs w' a (makeZ C (newD n)).2 ∧ FlD C true (fun _ _ => 0) (vOf C (fun _ => B0) (fun _ => 0) (iL C)) 200000 (makeZ C (newD n)).2 (fun _ => B0) (fun _ => 0) ∧ Gr a.all w w' := by
  obtain ⟨g1, g2, g3⟩ := newD_gud n
  obtain ⟨m1, m2, m3, m4⟩ := fl_made (N := 200000) hC hn g2 g1
  have n4 := hC.nums
  refine (fmake_any h hC hn g1 g3 (by omega)).mono ?_
  rintro e w2 ⟨rfl, d2, b2, g2⟩
  exact ⟨by rw [m1], d2, m4 (b2.mono (by omega)), g2⟩
theorem lnF_is {C : CfgZ} {A : FlA} {a : DevA} {g : Bool} {F : Nat → Nat → Nat} {V : FlV} {N : Nat} {w : World} (h : FL C A a g F V N w) {l : Nat} (hl : l < cR C * cL C) {s : ByteArray} (hs : s.size = 64) (hF : ∀ k, k < 8 → F l k = wdL s.data.toList k) : lnF F l = s := by
  obtain ⟨h1, h2⟩ := h.size l hl
  exact bytes_eq h1 hs fun k hk => (h2 k hk).trans (hF k hk)
set_option maxRecDepth 100000 in
set_option maxHeartbeats 8000000 in
theorem wakes09 (w : World) : Calls Tryz.prog 12 #[] w fun e w' => e = .returned (.bool true) ∧ Gr [] w w' := by
  have HFx := Lib.hid (fun W => full09 ⟨#[120]⟩ W (by show 1 ≤ _; omega))
  have HF0 := Lib.hid (fun W => full09 ⟨#[]⟩ W (by show 0 ≤ _; omega))
  obtain ⟨X, hX⟩ : ∃ A, A = fullS ⟨#[120]⟩ := ⟨_, rfl⟩
  obtain ⟨Y, hY⟩ : ∃ A, A = fullS ⟨#[]⟩ := ⟨_, rfl⟩
  have HX := Lib.hid (show X.size = 64 by rw [hX]; exact fullS_size _)
  have HY := Lib.hid (show Y.size = 64 ∧ ∀ k, k < 8 → wdL Y.data.toList k = 0 by rw [hY]; exact ⟨fullS_size _, fun k hk => nought_word hk⟩)
  rw [← hX] at HFx
  rw [← hY] at HF0
  have HMk := Lib.hid (fun W a (d : DevIs W a (newD 13)) => show Calls Tryz.prog 13 #[.pointer (some ⟨a.bd, 0, none⟩), .agg #[.int .i64 2, .int .i64 4, .int .i64 0, .int .i64 3, .int .u64 77]] W _ from fl_new ok9 (by rw [size9]; decide) W a d)
  have HSz := Lib.hid (fun W => show Calls Tryz.prog 37 #[.agg #[.int .i64 2, .int .i64 4, .int .i64 0, .int .i64 3, .int .u64 77]] W (fun e w' => e = .returned (.int .i64 13) ∧ Gr [] W w') from by have := csize_any C9 ok9.wf.1 W; rw [size9] at this; exact this)
  have HH := Lib.hid (Holds.new w #[.int .i64 2, .int .i64 4, .int .i64 0, .int .i64 3, .int .u64 77] 37)
  have HG0 := Lib.hid ((Gr.refl [] w).alloc (Obj.cells #[.int .i64 2, .int .i64 4, .int .i64 0, .int .i64 3, .int .u64 77] 37))
  have hneq : ∀ W : World, (binOp .neq 37 (.agg #[.int .i64 2, .int .i64 4, .int .i64 0, .int .i64 3, .int .u64 77]) (.agg #[.int .i64 2, .int .i64 4, .int .i64 0, .int .i64 3, .int .u64 77])).run Tryz.prog W = .ok (.bool false) W := fun W => by kernel_rfl
  clear hX hY
  go_enter Tryz.func12, Tryz.ntmps12
  go_upto_region 2 with fail
  generalize (w.alloc (Obj.cells #[.int .i64 2, .int .i64 4, .int .i64 0, .int .i64 3, .int .u64 77] 37)) = w1 at *
  obtain ⟨pb, hpb⟩ : ∃ pb, w.heap.size = pb := ⟨_, rfl⟩
  rw [hpb] at HH ⊢
  clear hpb
  go_wp2_with fail
  refine (pmnew_yes 13 _ (by omega) (by omega)).mono ?_
  rintro e w2 ⟨a, rfl, d2, hlo, g2⟩
  have HLO := Lib.hid (show ∀ x ∈ a.all, w.heap.size ≤ x from fun x hx => Nat.le_trans HG0.out.size (hlo x hx))
  have HNP := Lib.hid (show pb ∉ a.all from fun q => by have := hlo _ q; have := HH.out.lt; omega)
  have H2 := Lib.hid (And.intro d2 (And.intro (HH.out.gr0 g2) (HG0.out.trans g2)))
  have c0 := H2.out.2.1.cell 0
  have c1 := H2.out.2.1.cell 1
  have c2 := H2.out.2.1.cell 2
  have c3 := H2.out.2.1.cell 3
  have c4 := H2.out.2.1.cell 4
  clear d2 g2 hlo HH HG0
  go_wp2_with fail
  with_reducible refine (HMk.out _ a H2.out.1).mono ?_
  rintro e w3 ⟨rfl, d3, f3, g3⟩
  have H3 := Lib.hid (And.intro d3 (And.intro (H2.out.2.1.gr g3 HNP.out) (And.intro (H2.out.2.2.nextN g3 fun x hx => .inr (HLO.out x hx)) f3)))
  clear d3 f3 g3 c0 c1 c2 c3 c4 H2 HMk
  go_wp2_with fail
  refine (fl_open ok9 H3.out.2.2.2 (by omega) H3.out.1).mono ?_
  rintro e w4 ⟨A, rfl, f4, n4, g4⟩
  have HNA := Lib.hid (show ∀ x ∈ A.all (cR C9) ++ a.all, w.heap.size ≤ x from fun x hx => by
    rcases List.mem_append.1 hx with hx | hx
    · exact Nat.le_trans H3.out.2.2.1.size (n4 x hx)
    · exact HLO.out x hx)
  have H4 := Lib.hid (And.intro f4 (And.intro (H3.out.2.1.gr0 g4) (H3.out.2.2.1.trans g4)))
  clear f4 n4 g4 H3
  have k0 := kp_cell (H4.out.2.1.cell 0)
  have k1 := kp_cell (H4.out.2.1.cell 1)
  have k2 := kp_cell (H4.out.2.1.cell 2)
  have k3 := kp_cell (H4.out.2.1.cell 3)
  have k4 := kp_cell (H4.out.2.1.cell 4)
  have hne := kp_ne w4
  go_wp2_with fail
  have HLn := Lib.hid (fun (x : Cls (Kp w4)) => show Calls Tryz.prog 30 #[.pointer (some ⟨A.fb, 0, none⟩)] x.w (fun e w' => e = .returned (.int .i64 8) ∧ Below x.w.heap.size x.w w') from ((H4.out.1.gr0 (Gr.ofBelow x.h)).lines).mono fun _ _ q => ⟨q.1, q.2.below0⟩)
  have HCn := Lib.hid (fun (x : Cls (Kp w4)) => show Calls Tryz.prog 39 #[.pointer (some ⟨A.fb, 0, none⟩)] x.w (fun e w' => e = .returned (.agg #[.int .i64 2, .int .i64 4, .int .i64 0, .int .i64 3, .int .u64 77]) ∧ Below x.w.heap.size x.w w') from ((H4.out.1.gr0 (Gr.ofBelow x.h)).config).mono fun _ _ q => ⟨q.1, q.2.below0⟩)
  refine wp_region_kp (by kernel_rfl) (by kernel_rfl) ?_
  repeat (go_big_quiet_step ((rename_i x; first
    | with_reducible exact kp_call x (HLn.out x)
    | with_reducible exact kp_call x (HCn.out x)
    | with_reducible exact kp_call x ((HSz.out _).mono fun _ _ q => ⟨q.1, q.2.below0⟩))))
  with_reducible refine wpQuiet_nil ?_
  rintro _ ⟨y, rfl⟩
  have gy : Gr [] w4 y.w := Gr.ofBelow (cs := []) y.h
  have H5 := Lib.hid (And.intro (H4.out.1.gr0 gy) (H4.out.2.2.trans gy))
  clear k0 k1 k2 k3 k4 hne gy H4 HLn HCn hneq HSz
  generalize y.w = w5 at *
  clear y
  go_wp2_with fail
  with_reducible refine (HFx.out _).mono ?_
  rintro e w6 ⟨rfl, g6⟩
  have H6 := Lib.hid (And.intro (H5.out.1.gr0 g6) (H5.out.2.trans g6))
  clear g6 H5
  go_wp2_with fail
  refine (H6.out.1.put (by omega) 5 (by decide) X HX.out).mono ?_
  rintro e w7 ⟨x, V', rfl, hx, g7⟩
  rcases hx with ⟨rfl, f7⟩ | ⟨_, hf, _⟩
  case inr => exact absurd hf (by decide)
  have H7 := Lib.hid (And.intro f7 (H6.out.2.nextN g7 fun x hx => .inr (HNA.out x hx)))
  clear f7 g7 H6
  go_wp2_with fail
  refine (H7.out.1.read 5 (by decide)).mono ?_
  rintro e w8 ⟨rfl, g8⟩
  have H8 := Lib.hid (And.intro (H7.out.1.gr0 g8) (H7.out.2.trans g8))
  clear g8 H7
  rw [lnF_is H8.out.1 (by decide) HX.out (fun k hk => if_pos rfl)]
  go_wp2_with fail
  refine (H8.out.1.read 4 (by decide)).mono ?_
  rintro e w9 ⟨rfl, g9⟩
  have H9 := Lib.hid (And.intro (H8.out.1.gr0 g9) (H8.out.2.trans g9))
  clear g9 H8
  rw [lnF_is H9.out.1 (by decide) HY.out.1 (fun k hk => by rw [if_neg (by decide), HY.out.2 k hk])]
  have HRg := Lib.hid (fun W (g : Gr [] w9 W) => show Calls Tryz.prog 40 #[.pointer (some ⟨A.fb, 0, none⟩), .int .i64 5] W (fun e w' => e = .returned (.int .i64 1) ∧ Gr [] W w') from (H9.out.1.gr0 g).region 5 (by decide))
  go_wp2_with fail
  with_reducible refine (HFx.out _).mono ?_
  rintro e wa ⟨rfl, ga⟩
  have HA := Lib.hid ga
  clear ga
  go_wp2_with fail
  with_reducible refine (HF0.out _).mono ?_
  rintro e wb ⟨rfl, gb⟩
  have HB := Lib.hid (HA.out.trans gb)
  clear gb HA
  go_wp2_with fail
  with_reducible refine (HRg.out _ HB.out).mono ?_
  rintro e wc ⟨rfl, gc⟩
  have HF := Lib.hid (H9.out.2.trans (HB.out.trans gc))
  clear gc HB
  go_wp2_with fail
  go_ret
  exact ⟨rfl, HF.out⟩
end Go.Proofs.YtjbhallhmnahbaaGreat

/-
  FlatAlike: the law's small; a list at work, whatever index it is given.
-/
namespace Go.Proofs.YtjbhallhmnahbaaGreat
open Go.RowKit
set_option linter.unusedVariables false

def smallC (r l s p : Int) (key : Nat) : CfgZ := ⟨1 + mx r % 3, 1 + mx l % 5, mx s % 5, 1 + mx p % 4, key⟩
set_option maxRecDepth 100000 in
set_option maxHeartbeats 4000000 in
theorem small09 (r l s p : Int) (key : Nat) (w : World) : Calls Tryz.prog 8 #[.agg #[.int .i64 r, .int .i64 l, .int .i64 s, .int .i64 p, .int .u64 (key : Int)]] w fun e w' => e = .returned (cfgV (smallC r l s p key)) ∧ Gr [] w w' := by
  have hmx := max0 Tryz.prog
  have h0 := mx_nonneg r
  have h1 := mx_nonneg l
  have h2 := mx_nonneg s
  have h3 := mx_nonneg p
  obtain ⟨r1, e1⟩ : ∃ x, x = mx r % 3 := ⟨_, rfl⟩
  obtain ⟨l1, e2⟩ : ∃ x, x = mx l % 5 := ⟨_, rfl⟩
  obtain ⟨s1, e3⟩ : ∃ x, x = mx s % 5 := ⟨_, rfl⟩
  obtain ⟨p1, e4⟩ : ∃ x, x = mx p % 4 := ⟨_, rfl⟩
  have b1 : IntKind.i64.wrap (1 + mx r % 3) = 1 + mx r % 3 := IntWalk.i64_in _ (by omega)
  have b2 : IntKind.i64.wrap (1 + mx l % 5) = 1 + mx l % 5 := IntWalk.i64_in _ (by omega)
  have b4 : IntKind.i64.wrap (1 + mx p % 4) = 1 + mx p % 4 := IntWalk.i64_in _ (by omega)
  have hb1 := (Holds.new w #[.int .i64 r, .int .i64 l, .int .i64 s, .int .i64 p, .int .u64 (key : Int)] 24).alloc (Obj.cells #[.int .i64 0, .int .i64 0, .int .i64 0, .int .i64 0, .int .u64 0] 26)
  have hb2 := Holds.new (w.alloc (Obj.cells #[.int .i64 r, .int .i64 l, .int .i64 s, .int .i64 p, .int .u64 (key : Int)] 24)) #[.int .i64 0, .int .i64 0, .int .i64 0, .int .i64 0, .int .u64 0] 26
  rw [World.size_alloc] at hb2
  have hg := ((Gr.refl [] w).alloc (Obj.cells #[.int .i64 r, .int .i64 l, .int .i64 s, .int .i64 p, .int .u64 (key : Int)] 24)).alloc (Obj.cells #[.int .i64 0, .int .i64 0, .int .i64 0, .int .i64 0, .int .u64 0] 26)
  have H := Lib.hid (And.intro hb1 (And.intro hb2 hg))
  unfold cfgV smallC
  clear hb1 hb2 hg e1 e2 e3 e4
  go_enter Tryz.func8, Tryz.ntmps8
  go_upto_region 1 with fail
  generalize (w.alloc (Obj.cells #[.int .i64 r, .int .i64 l, .int .i64 s, .int .i64 p, .int .u64 (key : Int)] 24)).alloc (Obj.cells #[.int .i64 0, .int .i64 0, .int .i64 0, .int .i64 0, .int .u64 0] 26) = w1 at *
  obtain ⟨b, hb⟩ : ∃ b, w.heap.size = b := ⟨_, rfl⟩
  have HW := Lib.hid (show w.heap.size ≤ b by omega)
  rw [hb] at H ⊢
  clear hb
  have c0 : w1.cell? ⟨b, 0, none⟩ = some (.int .i64 r) := H.out.1.cell 0
  have c1 : w1.cell? ⟨b, 1, none⟩ = some (.int .i64 l) := H.out.1.cell 1
  have c2 : w1.cell? ⟨b, 2, none⟩ = some (.int .i64 s) := H.out.1.cell 2
  have c3 : w1.cell? ⟨b, 3, none⟩ = some (.int .i64 p) := H.out.1.cell 3
  have c4 : w1.cell? ⟨b, 4, none⟩ = some (.int .u64 (key : Int)) := H.out.1.cell 4
  obtain ⟨b2', hb2'⟩ : ∃ b2', b + 1 = b2' := ⟨_, rfl⟩
  have HW2 := Lib.hid (show w.heap.size ≤ b2' by have := HW.out; omega)
  rw [hb2'] at H ⊢
  clear hb2'
  have d0 : w1.cell? ⟨b2', 0, none⟩ = some (.int .i64 0) := H.out.2.1.cell 0
  have d1 : w1.cell? ⟨b2', 1, none⟩ = some (.int .i64 0) := H.out.2.1.cell 1
  have d2 : w1.cell? ⟨b2', 2, none⟩ = some (.int .i64 0) := H.out.2.1.cell 2
  have d3 : w1.cell? ⟨b2', 3, none⟩ = some (.int .i64 0) := H.out.2.1.cell 3
  have d4 : w1.cell? ⟨b2', 4, none⟩ = some (.int .u64 0) := H.out.2.1.cell 4
  have f0 := H.out.2.1.frozen 0
  have f1 := H.out.2.1.frozen 1
  have f2 := H.out.2.1.frozen 2
  have f3 := H.out.2.1.frozen 3
  have f4 := H.out.2.1.frozen 4
  have HF := Lib.hid (((((H.out.2.2.setCell (p := ⟨b2', 0, none⟩) (.inr HW2.out) (.int .i64 (1 + mx r % 3))).setCell (p := ⟨b2', 1, none⟩) (.inr HW2.out) (.int .i64 (1 + mx l % 5))).setCell (p := ⟨b2', 2, none⟩) (.inr HW2.out) (.int .i64 (mx s % 5))).setCell (p := ⟨b2', 3, none⟩) (.inr HW2.out) (.int .i64 (1 + mx p % 4))).setCell (p := ⟨b2', 4, none⟩) (.inr HW2.out) (.int .u64 (key : Int)))
  go_wp2_with fail
  exact bodyPost_ret (v := .agg #[.int .i64 (1 + mx r % 3), .int .i64 (1 + mx l % 5), .int .i64 (mx s % 5), .int .i64 (1 + mx p % 4), .int .u64 (key : Int)]) (by simp [results, Tryz.results8, go_sem, *]) rfl ⟨rfl, HF.out⟩
/-- A list none of whose lines is bad, behind n writes at most. -/
def FQ (C : CfgZ) (A : FlA) (a : DevA) (F : Nat → Nat → Nat) (n : Nat) (w : World) : Prop := ∃ V, FL C A a true F V (200000 + 4200 * n) w
section
variable {w w' : World} {A : FlA} {a : DevA} {C : CfgZ} {F F' : Nat → Nat → Nat} {n : Nat}
theorem FQ.gr {bs : List Nat} (h : FQ C A a F n w) (k : Gr bs w w') (hn : ∀ x ∈ A.all (cR C) ++ a.all, x ∉ bs) : FQ C A a F n w' := h.elim fun V h => ⟨V, h.gr k hn⟩
theorem FQ.gr0 (h : FQ C A a F n w) (k : Gr [] w w') : FQ C A a F n w' := h.elim fun V h => ⟨V, h.gr0 k⟩
theorem FQ.lt (h : FQ C A a F n w) : ∀ x ∈ A.all (cR C) ++ a.all, x < w.heap.size := h.elim fun V h => h.lt
theorem FQ.more {m : Nat} (h : FQ C A a F n w) (hm : n ≤ m) : FQ C A a F m w := h.elim fun V h => ⟨V, h.more (by omega)⟩
theorem FQ.put (h : FQ C A a F n w) (hn : n < 69) (i : Int) (s : ByteArray) (hs : s.size = 64) :
    Calls Tryz.prog 18 #[.pointer (some ⟨A.fb, 0, none⟩), .int .i64 i, .string s] w fun e w' => e = .returned (.int .i64 (errP (cR C * cL C) i)) ∧ FQ C A a (putF F i s) (n + 1) w' ∧ Gr (A.all (cR C) ++ a.all) w w' := by
  obtain ⟨V, h⟩ := h
  by_cases ho : i < 0 ∨ ((cR C * cL C : Nat) : Int) ≤ i
  · have h' := h
    obtain ⟨ok, D, B, j, c, h1, h2, h3⟩ := h
    refine (fwrite_out i s h2 hs ho).mono ?_
    rintro e w2 ⟨rfl, g⟩
    refine ⟨by unfold errP; rw [if_pos ho], ⟨V, ((h'.gr0 g).congr (fun l k hl _ => ?_)).more (by omega)⟩, g.of0⟩
    unfold putF
    rw [if_neg (by omega)]
  · obtain ⟨l, rfl⟩ : ∃ l : Nat, i = (l : Int) := ⟨i.toNat, by omega⟩
    refine (h.put (by omega) l (by omega) s hs).mono ?_
    rintro e w2 ⟨x, V', rfl, hx, g⟩
    rcases hx with ⟨rfl, r⟩ | ⟨_, hf, _⟩
    · refine ⟨by unfold errP; rw [if_neg ho], ⟨V', (r.congr (fun l2 k _ _ => ?_)).more (by omega)⟩, g⟩
      unfold putF
      by_cases e : l2 = l
      · rw [if_pos e, if_pos (by omega)]
      · rw [if_neg e, if_neg (by omega)]
    · exact absurd hf (by decide)
theorem FQ.word (h : FQ C A a F n w) (hn : n < 69) (i k : Int) (v : Nat) (hv : v < 18446744073709551616) :
    Calls Tryz.prog 21 #[.pointer (some ⟨A.fb, 0, none⟩), .int .i64 i, .int .i64 k, .int .u64 (v : Int)] w fun e w' => e = .returned (.int .i64 (errK (cR C * cL C) i k)) ∧ FQ C A a (wwF F i k v) (n + 1) w' ∧ Gr (A.all (cR C) ++ a.all) w w' := by
  obtain ⟨V, h⟩ := h
  by_cases hk : k < 0 ∨ 8 ≤ k
  · refine (fww_arg i k v hk A.fb w).mono ?_
    rintro e w2 ⟨rfl, rfl⟩
    refine ⟨by unfold errK; rw [if_pos hk], ⟨V, (h.congr (fun l m hl hm => ?_)).more (by omega)⟩, Gr.refl _ _⟩
    unfold wwF
    rw [if_neg (by omega)]
  · by_cases ho : i < 0 ∨ ((cR C * cL C : Nat) : Int) ≤ i
    · have h' := h
      obtain ⟨ok, D, B, j, c, h1, h2, h3⟩ := h
      refine (fww_out i k v h2 (by omega) (by omega) ho).mono ?_
      rintro e w2 ⟨rfl, g⟩
      refine ⟨by unfold errK errP; rw [if_neg hk, if_pos ho], ⟨V, ((h'.gr0 g).congr (fun l m hl _ => ?_)).more (by omega)⟩, g.of0⟩
      unfold wwF
      rw [if_neg (by omega)]
    · obtain ⟨l, rfl⟩ : ∃ l : Nat, i = (l : Int) := ⟨i.toNat, by omega⟩
      obtain ⟨kk, rfl⟩ : ∃ kk : Nat, k = (kk : Int) := ⟨k.toNat, by omega⟩
      refine (h.word (by omega) l kk v (by omega) (by omega) hv).mono ?_
      rintro e w2 ⟨x, V', rfl, hx, g⟩
      rcases hx with ⟨rfl, r⟩ | ⟨_, hf, _⟩
      · refine ⟨by unfold errK errP; rw [if_neg hk, if_neg ho], ⟨V', (r.congr (fun l2 m _ _ => ?_)).more (by omega)⟩, g⟩
        unfold wwF updF
        by_cases e : l2 = l
        · subst e
          rw [if_pos rfl]
          by_cases e2 : m = kk
          · rw [if_pos e2, if_pos (by omega)]
          · rw [if_neg e2, if_neg (by omega)]
        · rw [if_neg e, if_neg (by omega)]
      · exact absurd hf (by decide)
theorem FQ.read (h : FQ C A a F n w) (l : Nat) (hl : l < cR C * cL C) :
    Calls Tryz.prog 22 #[.pointer (some ⟨A.fb, 0, none⟩), .int .i64 (l : Int)] w fun e w' => e = .returned (.tuple #[.string (lnF F l), .int .i64 0]) ∧ Gr [] w w' := h.elim fun V h => h.read l hl
/-- Made of a new device, and opened. -/
theorem FQ.begin (hC : OkC C) {N : Nat} (hN : sizeC C ≤ (N : Int)) :
    ∃ E : DevS, (∀ (w : World) (a : DevA), DevIs w a (newD N) → Calls Tryz.prog 13 #[.pointer (some ⟨a.bd, 0, none⟩), cfgV C] w fun e w' => e = .returned (.int .i64 0) ∧ (DevIs w' a E ∧ Bd E 200000) ∧ Gr a.all w w') ∧
      (∀ (w : World) (a : DevA), DevIs w a E ∧ Bd E 200000 → Calls Tryz.prog 16 #[.pointer (some ⟨a.bd, 0, none⟩)] w fun e w' => ∃ A : FlA, e = .returned (.tuple #[.pointer (some ⟨A.fb, 0, none⟩), .int .i64 0]) ∧ FQ C A a (fun _ _ => 0) 0 w' ∧ (∀ x ∈ A.all (cR C), w.heap.size ≤ x) ∧ Gr [] w w') := by
  obtain ⟨g1, g2, g3⟩ := newD_gud N
  obtain ⟨m1, m2, m3, m4⟩ := fl_made (N := 200000) hC hN g2 g1
  have n4 := hC.nums
  refine ⟨_, fun w a h => (fl_new hC hN w a h).mono ?_, fun w a h => (fl_open hC (m4 h.2) (by omega) h.1).mono ?_⟩
  · rintro e w2 ⟨rfl, d, f, g⟩
    exact ⟨rfl, ⟨d, f.bd⟩, g⟩
  · rintro e w2 ⟨A, rfl, f, nn, g⟩
    exact ⟨A, rfl, ⟨_, f⟩, nn, g⟩
end
end Go.Proofs.YtjbhallhmnahbaaGreat

/-
  Slices of acts (three integers, a word, a text, a list of bools) that come in as an argument of a law, opened.
-/
namespace Go.Proofs.YtjbhallhmnahbaaGreat
open Go.ChangeShapes Go.WideShapes Go.ChangeAt Go.RowKit
set_option linter.unusedVariables false

structure ActL where
  d : Int
  z : Int
  k : Int
  v : Nat
  s : ByteArray
  ao : Option Addr
  kl : Nat
  kc : Nat
  kp : Nat → Bool
def I64 (x : Int) : Prop := -9223372036854775808 ≤ x ∧ x ≤ 9223372036854775807
def ActLIs (w : World) (x : ActL) : Prop :=
  I64 x.d ∧ I64 x.z ∧ I64 x.k ∧ x.v < 18446744073709551616 ∧ x.s.size ≤ maxLen ∧
  (∀ j, j < x.kl → ∃ b o, x.ao = some ⟨b, o, none⟩ ∧ b < w.heap.size ∧ w.cell? ⟨b, o + j, none⟩ = some (.bool (x.kp j))) ∧ x.kl ≤ x.kc ∧ x.kc ≤ maxLen ∧ (x.ao = none → x.kc = 0)
def ActLAt (w : World) (b o : Nat) (x : ActL) : Prop :=
  w.cell? ⟨b, o, none⟩ = some (.int .i64 x.d) ∧ w.cell? ⟨b, o + 1, none⟩ = some (.int .i64 x.z) ∧ w.cell? ⟨b, o + 2, none⟩ = some (.int .i64 x.k) ∧ w.cell? ⟨b, o + 3, none⟩ = some (.int .u64 (x.v : Int)) ∧ w.cell? ⟨b, o + 4, none⟩ = some (.string x.s) ∧ w.cell? ⟨b, o + 5, none⟩ = some (.slice x.ao x.kl x.kc)
def SlL (w : World) (v : Value) : Prop :=
  (∃ ao cap, v = .slice ao 0 cap ∧ (ao = none → cap = 0) ∧ cap ≤ maxLen) ∨
  ∃ b off n cap, ∃ xs : Nat → ActL, v = .slice (some ⟨b, off, none⟩) n cap ∧ 0 < n ∧ n ≤ cap ∧ cap ≤ maxLen ∧ b < w.heap.size ∧ ∀ i, i < n → ActLIs w (xs i) ∧ ActLAt w b (off + i * 6) (xs i)

theorem open_actl {H : Type} {enc : TypeId × Value → H} {P : Program} {w : World} {base : Nat} {held : Bool} {e eb : TypeId} {fs : Array Field} {f0 f1 f2 f3 f4 f5 : Field} {cs : List Value} {x : DataW H × List MemPlace} {fuel : Nat}
    (he : P.underlying e = some (.struct fs)) (h0 : fs[0]? = some f0) (h1 : fs[1]? = some f1) (h2 : fs[2]? = some f2) (h3 : fs[3]? = some f3) (h4 : fs[4]? = some f4) (h5 : fs[5]? = some f5)
    (o0 : f0.offset = 0) (o1 : f1.offset = 1) (o2 : f2.offset = 2) (o3 : f3.offset = 3) (o4 : f4.offset = 4) (o5 : f5.offset = 5)
    (t0 : P.underlying f0.type = some (.int .i64)) (t1 : P.underlying f1.type = some (.int .i64)) (t2 : P.underlying f2.type = some (.int .i64)) (t3 : P.underlying f3.type = some (.int .u64)) (t4 : P.underlying f4.type = some .string) (t5 : P.underlying f5.type = some (.slice eb)) (tb : P.underlying eb = some .bool)
    (c0 : P.cellsOf f0.type = 1) (c1 : P.cellsOf f1.type = 1) (c2 : P.cellsOf f2.type = 1) (c3 : P.cellsOf f3.type = 1) (c4 : P.cellsOf f4.type = 1) (c5 : P.cellsOf f5.type = 1) (cb : P.cellsOf eb = 1)
    (h : DataW.trod enc P w base (fun _ => true) held fuel e cs = some x) :
    ∃ y : ActL, ActLIs w y ∧ cs[0]? = some (.int .i64 y.d) ∧ cs[1]? = some (.int .i64 y.z) ∧ cs[2]? = some (.int .i64 y.k) ∧ cs[3]? = some (.int .u64 (y.v : Int)) ∧ cs[4]? = some (.string y.s) ∧ cs[5]? = some (.slice y.ao y.kl y.kc) := by
  obtain ⟨ys, n, _, _, hl, hy, hi⟩ := DataW.trod_struct he h
  have hsz : 5 < fs.size := (Array.getElem?_eq_some_iff.1 h5).1
  have key : ∀ (i : Nat) (v : Value), (cs.drop i).take 1 = [v] → cs[i]? = some v := fun i v hd => by
    have : (List.take 1 (List.drop i cs))[0]? = some v := by rw [hd]; rfl
    rw [List.getElem?_take_of_lt (by omega), List.getElem?_drop, Nat.add_zero] at this
    exact this
  have r0 := hi 0 f0 h0
  have r1 := hi 1 f1 h1
  have r2 := hi 2 f2 h2
  have r3 := hi 3 f3 h3
  have r4 := hi 4 f4 h4
  have r5 := hi 5 f5 h5
  rw [o0, c0, List.getElem?_eq_getElem (by omega)] at r0
  rw [o1, c1, List.getElem?_eq_getElem (by omega)] at r1
  rw [o2, c2, List.getElem?_eq_getElem (by omega)] at r2
  rw [o3, c3, List.getElem?_eq_getElem (by omega)] at r3
  rw [o4, c4, List.getElem?_eq_getElem (by omega)] at r4
  rw [o5, c5, List.getElem?_eq_getElem (by omega)] at r5
  obtain ⟨d, hd, _, wd⟩ := DataW.trod_int t0 r0
  obtain ⟨z, hz, _, wz⟩ := DataW.trod_int t1 r1
  obtain ⟨k, hk, _, wk⟩ := DataW.trod_int t2 r2
  obtain ⟨v, hv, _, wv⟩ := DataW.trod_int t3 r3
  obtain ⟨s, hs, _, ws⟩ := DataW.trod_string t4 r4
  obtain ⟨kv, kl, kp, hkv, ao, kc, rfl, q1, q2, q3, q4, q5, q6⟩ := open_bl_raw t5 tb cb r5
  obtain ⟨u, rfl, hu⟩ := natU64 wv
  exact ⟨⟨d, z, k, u, s, ao, kl, kc, kp⟩, ⟨bounds_i64 wd, bounds_i64 wz, bounds_i64 wk, hu, ws, q1, q4, q5, q6⟩, key 0 _ hd, key 1 _ hz, key 2 _ hk, key 3 _ hv, key 4 _ hs, key 5 _ hkv⟩

theorem open_actsl {H : Type} {enc : TypeId × Value → H} {P : Program} {w : World} {base : Nat} {held : Bool} {t e eb : TypeId} {fs : Array Field} {f0 f1 f2 f3 f4 f5 : Field} {v : Value} {b0 : Nat} {d : DataW H} {p : List MemPlace}
    (ht : P.underlying t = some (.slice e)) (he : P.underlying e = some (.struct fs)) (h0 : fs[0]? = some f0) (h1 : fs[1]? = some f1) (h2 : fs[2]? = some f2) (h3 : fs[3]? = some f3) (h4 : fs[4]? = some f4) (h5 : fs[5]? = some f5)
    (o0 : f0.offset = 0) (o1 : f1.offset = 1) (o2 : f2.offset = 2) (o3 : f3.offset = 3) (o4 : f4.offset = 4) (o5 : f5.offset = 5)
    (t0 : P.underlying f0.type = some (.int .i64)) (t1 : P.underlying f1.type = some (.int .i64)) (t2 : P.underlying f2.type = some (.int .i64)) (t3 : P.underlying f3.type = some (.int .u64)) (t4 : P.underlying f4.type = some .string) (t5 : P.underlying f5.type = some (.slice eb)) (tb : P.underlying eb = some .bool)
    (c0 : P.cellsOf f0.type = 1) (c1 : P.cellsOf f1.type = 1) (c2 : P.cellsOf f2.type = 1) (c3 : P.cellsOf f3.type = 1) (c4 : P.cellsOf f4.type = 1) (c5 : P.cellsOf f5.type = 1) (cb : P.cellsOf eb = 1) (ce : P.cellsOf e = 6)
    (hv : Value.okWide P w .any b0 t v) (h : DataW.Trod enc P w base (fun _ => true) held t v d p) : SlL w v := by
  obtain ⟨a0, len, cap, rfl⟩ := okWide_slice ht hv
  obtain ⟨fuel, hf⟩ := h
  rcases DataW.trod_slice ht hf with ⟨hcs, _⟩ | ⟨a, len', cap', elems, rest, n, _, hcs, _, hb, hl, hm, hlen, hel, _, _⟩
  · simp [Value.cells] at hcs
    obtain ⟨rfl, rfl, rfl⟩ := hcs
    exact .inl ⟨none, 0, rfl, fun _ => rfl, Nat.zero_le _⟩
  · simp [Value.cells] at hcs
    obtain ⟨rfl, rfl, rfl⟩ := hcs
    by_cases hz : len = 0
    · subst hz
      exact .inl ⟨some a, cap, rfl, (fun e => by cases e), hm⟩
    · have each : ∀ i, i < len → ∃ y : ActL, ActLIs w y ∧ w.cell? ((a.add (i * 6)).add 0) = some (.int .i64 y.d) ∧ w.cell? ((a.add (i * 6)).add 1) = some (.int .i64 y.z) ∧ w.cell? ((a.add (i * 6)).add 2) = some (.int .i64 y.k) ∧ w.cell? ((a.add (i * 6)).add 3) = some (.int .u64 (y.v : Int)) ∧ w.cell? ((a.add (i * 6)).add 4) = some (.string y.s) ∧ w.cell? ((a.add (i * 6)).add 5) = some (.slice y.ao y.kl y.kc) := by
        intro i hi
        have q := hel i hi
        rw [ce, List.getElem?_eq_getElem (by omega), Option.bind_eq_some_iff] at q
        obtain ⟨cs', hc', hy⟩ := q
        obtain ⟨_, _, hc2⟩ := World.cells?_some hc'
        obtain ⟨y, hy1, e0, e1, e2, e3, e4, e5⟩ := open_actl he h0 h1 h2 h3 h4 h5 o0 o1 o2 o3 o4 o5 t0 t1 t2 t3 t4 t5 tb c0 c1 c2 c3 c4 c5 cb hy
        exact ⟨y, hy1, (hc2 0 (by omega)).trans e0, (hc2 1 (by omega)).trans e1, (hc2 2 (by omega)).trans e2, (hc2 3 (by omega)).trans e3, (hc2 4 (by omega)).trans e4, (hc2 5 (by omega)).trans e5⟩
      obtain ⟨b, off, spot⟩ := a
      have hspot : spot = none := by
        obtain ⟨y, _, e0, _⟩ := each 0 (by omega)
        simpa [Addr.add] using World.cell?_spot e0
      subst hspot
      have hcl : ∀ i k, ((⟨b, off, none⟩ : Addr).add (i * 6)).add k = ⟨b, off + i * 6 + k, none⟩ := fun i k => by rw [add_plain, add_plain]
      have each2 : ∀ i, i < len → ∃ y : ActL, ActLIs w y ∧ ActLAt w b (off + i * 6) y := fun i hi => by
        obtain ⟨y, y1, e0, e1, e2, e3, e4, e5⟩ := each i hi
        rw [hcl] at e0 e1 e2 e3 e4 e5
        exact ⟨y, y1, e0, e1, e2, e3, e4, e5⟩
      refine .inr ⟨b, off, len, cap, fun i => if hi : i < len then Classical.choose (each2 i hi) else ⟨0, 0, 0, 0, ⟨#[]⟩, none, 0, 0, fun _ => false⟩, rfl, by omega, hl, hm, ?_, fun i hi => ?_⟩
      · obtain ⟨y, _, e0, _⟩ := each2 0 (by omega)
        exact block_lt_of_cell e0
      · dsimp only
        rw [dif_pos hi]
        exact Classical.choose_spec (each2 i hi)

end Go.Proofs.YtjbhallhmnahbaaGreat
