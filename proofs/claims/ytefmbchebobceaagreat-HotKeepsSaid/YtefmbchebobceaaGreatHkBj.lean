/-
  HkBj: HtO, HtQ, HtR.
-/
import Derived.Test.YtefmbchebobceaaGreatHkBi
import Derived.Test.YtefmbchebobceaaGreatHkBe

set_option linter.unusedVariables false

/-
  Layer 10: Open.
-/
namespace Go.Proofs.YtefmbchebobceaaGreat
open Go.RowKit
set_option linter.unusedVariables false

theorem infoI10 : (Tryz.prog.info? 3).map (fun i => (i.zero, i.size, i.bytes)) = some (some (.int .i64 0), 1, 8) := by kernel_rfl
theorem infoB10 : (Tryz.prog.info? 4).map (fun i => (i.zero, i.size, i.bytes)) = some (some (.bool false), 1, 1) := by kernel_rfl
structure OpW (w0 : World) (A : FlA) (C : CfgZ) (lim pb hb tb : Nat) (W : World) : Prop where
  head : Holds W pb (ldRow A C lim hb tb (.slice none 0 0)) 110
  hts : Holds W hb (rowOf (fun _ => .int .i64 0) (pgC C)) 3
  tks : Holds W tb (rowOf (fun _ => .bool false) (frmC C)) 4
  lo : w0.heap.size ≤ pb ∧ w0.heap.size ≤ hb ∧ w0.heap.size ≤ tb
  nd : pb ≠ hb ∧ pb ≠ tb ∧ hb ≠ tb
  gr : Gr [] w0 W
section
variable {w0 w w' wr : World} {A : FlA} {a : DevA} {C : CfgZ} {F : Nat → Nat → Nat} {V : FlV} {c : Nat → Nat} {N lim pb hb tb : Nat} {fr mv : Nat → Nat} {D : DevS} {B : Nat → BkS} {j : Nat → Nat}
theorem opw_box {w8 : World} {hb tb : Nat} (g8 : Gr [] w0 w8) (h1 : Holds w8 hb (rowOf (fun _ => .int .i64 0) (pgC C)) 3) (h2 : Holds w8 tb (rowOf (fun _ => .bool false) (frmC C)) 4) (l1 : w0.heap.size ≤ hb) (l2 : w0.heap.size ≤ tb) (hn : hb ≠ tb) :
    OpW w0 A C lim w8.heap.size hb tb (w8.alloc (Obj.cells (ldRow A C lim hb tb (.slice none 0 0)) 110)) := by
  have q1 := h1.lt
  have q2 := h2.lt
  exact ⟨Holds.new _ _ _, h1.alloc _, h2.alloc _, ⟨g8.size, l1, l2⟩, ⟨by omega, by omega, hn⟩, g8.alloc _⟩
theorem opw_A {w8 : World} (g8 : Gr [] w0 w8) (h1 : Holds w8 w0.heap.size (rowOf (fun _ => .int .i64 0) (pgC C)) 3) :
    OpW w0 A C lim (w8.heap.size + 1) w0.heap.size w8.heap.size ((w8.alloc (Obj.cells (rowOf (fun _ => .bool false) (frmC C)) 4)).alloc (Obj.cells (ldRow A C lim w0.heap.size w8.heap.size (.slice none 0 0)) 110)) := by
  have q1 := h1.lt
  have := opw_box (A := A) (lim := lim) (C := C) (g8.alloc (Obj.cells (rowOf (fun _ => .bool false) (frmC C)) 4)) (h1.alloc _) (Holds.new w8 _ 4) (Nat.le_refl _) g8.size (by omega)
  rw [World.size_alloc] at this
  exact this
theorem opw_B {w8 : World} (g8 : Gr [] w0 w8) :
    OpW w0 A C lim (w8.heap.size + 1 + 1) w8.heap.size (w8.heap.size + 1) (((w8.alloc (Obj.cells (rowOf (fun _ => .int .i64 0) (pgC C)) 3)).alloc (Obj.cells (rowOf (fun _ => .bool false) (frmC C)) 4)).alloc (Obj.cells (ldRow A C lim w8.heap.size (w8.heap.size + 1) (.slice none 0 0)) 110)) := by
  have hs : (w8.alloc (Obj.cells (rowOf (fun _ => .int .i64 0) (pgC C)) 3)).heap.size = w8.heap.size + 1 := World.size_alloc _ _
  have hn := Holds.new (w8.alloc (Obj.cells (rowOf (fun _ => .int .i64 0) (pgC C)) 3)) (rowOf (fun _ => .bool false) (frmC C)) 4
  rw [hs] at hn
  have := opw_box (A := A) (lim := lim) (C := C) ((g8.alloc (Obj.cells (rowOf (fun _ => .int .i64 0) (pgC C)) 3)).alloc (Obj.cells (rowOf (fun _ => .bool false) (frmC C)) 4)) ((Holds.new w8 _ 3).alloc _) hn g8.size (by have := g8.size; omega) (by omega)
  rw [World.size_alloc, World.size_alloc] at this
  exact this
theorem opw_C {w8 : World} (g8 : Gr [] w0 w8) :
    OpW w0 A C lim (w8.heap.size + 1 + 1) (w8.heap.size + 1) w8.heap.size (((w8.alloc (Obj.cells (rowOf (fun _ => .bool false) (frmC C)) 4)).alloc (Obj.cells (rowOf (fun _ => .int .i64 0) (pgC C)) 3)).alloc (Obj.cells (ldRow A C lim (w8.heap.size + 1) w8.heap.size (.slice none 0 0)) 110)) := by
  have hs : (w8.alloc (Obj.cells (rowOf (fun _ => .bool false) (frmC C)) 4)).heap.size = w8.heap.size + 1 := World.size_alloc _ _
  have hn := Holds.new (w8.alloc (Obj.cells (rowOf (fun _ => .bool false) (frmC C)) 4)) (rowOf (fun _ => .int .i64 0) (pgC C)) 3
  rw [hs] at hn
  have := opw_box (A := A) (lim := lim) (C := C) ((g8.alloc (Obj.cells (rowOf (fun _ => .bool false) (frmC C)) 4)).alloc (Obj.cells (rowOf (fun _ => .int .i64 0) (pgC C)) 3)) hn ((Holds.new w8 _ 4).alloc _) (by have := g8.size; omega) g8.size (by omega)
  rw [World.size_alloc, World.size_alloc] at this
  exact this
theorem keep3h {W W' : World} {b : Nat} {x0 x1 x2 : Value} (h : W.cell? ⟨b, 0, none⟩ = some x0 ∧ W.cell? ⟨b, 1, none⟩ = some x1 ∧ W.cell? ⟨b, 2, none⟩ = some x2) (g : Gr [] W W') : W'.cell? ⟨b, 0, none⟩ = some x0 ∧ W'.cell? ⟨b, 1, none⟩ = some x1 ∧ W'.cell? ⟨b, 2, none⟩ = some x2 :=
  have hb := World.block_lt_of_cell? W _ h.1
  ⟨(g.cell0 hb).trans h.1, (g.cell0 hb).trans h.2.1, (g.cell0 hb).trans h.2.2⟩
theorem kA3h {W : World} {b : Nat} {x0 x1 x2 : Value} {o : Obj} (h : W.cell? ⟨b, 0, none⟩ = some x0 ∧ W.cell? ⟨b, 1, none⟩ = some x1 ∧ W.cell? ⟨b, 2, none⟩ = some x2) : (W.alloc o).cell? ⟨b, 0, none⟩ = some x0 ∧ (W.alloc o).cell? ⟨b, 1, none⟩ = some x1 ∧ (W.alloc o).cell? ⟨b, 2, none⟩ = some x2 := keep3h h ((Gr.refl [] W).alloc o)
theorem kD3h {W : World} {b : Nat} {x0 x1 x2 : Value} (h : W.cell? ⟨b, 0, none⟩ = some x0 ∧ W.cell? ⟨b, 1, none⟩ = some x1 ∧ W.cell? ⟨b, 2, none⟩ = some x2) : W.drew.cell? ⟨b, 0, none⟩ = some x0 ∧ W.drew.cell? ⟨b, 1, none⟩ = some x1 ∧ W.drew.cell? ⟨b, 2, none⟩ = some x2 := h
theorem afterZ0 {W w5 : World} (g : Gr [] W.drew w5) : Gr [] W w5 := (Gr.refl [] W).drew.trans g
theorem afterZ1 {W w5 : World} {cs : Array Value} {t : TypeId} (g : Gr [] (W.alloc (Obj.cells cs t)).drew w5) : Holds w5 W.heap.size cs t ∧ Gr [] W w5 := ⟨(Holds.new W cs t).gr0 ((Gr.refl [] _).drew.trans g), (((Gr.refl [] W).alloc _).drew).trans g⟩
def tkN (C : CfgZ) (n : Nat) : Array Value := rowOf (fun q => .bool (decide (q < n))) (frmC C)
theorem tkN_set (C : CfgZ) (n : Nat) : (tkN C n).setIfInBounds n (.bool true) = tkN C (n + 1) := by
  unfold tkN
  rw [rowOf_set]
  congr 1
  funext j
  by_cases e : j = n
  · rw [if_pos e, decide_eq_true (by omega)]
  · rw [if_neg e]
    congr 1
    by_cases h : j < n
    · rw [decide_eq_true h, decide_eq_true (by omega)]
    · rw [decide_eq_false h, decide_eq_false (by omega)]
structure OpT (w0 : World) (A : FlA) (C : CfgZ) (lim pb hb tb n : Nat) (W : World) : Prop where
  head : Holds W pb (ldRow A C lim hb tb (.slice none 0 0)) 110
  hts : Holds W hb (rowOf (fun _ => .int .i64 0) (pgC C)) 3
  tks : Holds W tb (tkN C n) 4
  lo : w0.heap.size ≤ pb ∧ w0.heap.size ≤ hb ∧ w0.heap.size ≤ tb
  nd : pb ≠ hb ∧ pb ≠ tb ∧ hb ≠ tb
  gr : Gr [] w0 W
theorem OpW.start {tb : Nat} (h : OpW w0 A C lim pb hb tb w) : OpT w0 A C lim pb hb tb 0 w := ⟨h.head, h.hts, by
  have e : tkN C 0 = rowOf (fun _ => .bool false) (frmC C) := by
    unfold tkN
    congr 1
  rw [e]; exact h.tks, h.lo, h.nd, h.gr⟩
theorem OpT.next {tb n : Nat} (h : OpT w0 A C lim pb hb tb n w) : OpT w0 A C lim pb hb tb (n + 1) (w.setCell ⟨tb, n, none⟩ (.bool true)) :=
  ⟨h.head.far (a := ⟨tb, n, none⟩) h.nd.2.1 _, h.hts.far (a := ⟨tb, n, none⟩) h.nd.2.2 _, by rw [← tkN_set]; exact h.tks.set n _, h.lo, h.nd, h.gr.setCell (p := ⟨tb, n, none⟩) (.inr h.lo.2.2) _⟩
theorem OpT.ld {tb : Nat} (hC : OkC C) (hp : 0 < pgC C) (fl : FLc C A a true F V c N w0) (h : OpT w0 A C lim pb hb tb (tbC C) w) : LdI w A a C F V c N lim pb hb tb fr mv 0 (.slice none 0 0) w := by
  have hlt := fl.fl.lt
  have fw := fl.gr0 h.gr
  have key : ∀ b, w0.heap.size ≤ b → b ∉ A.all (cR C) ++ a.all := fun b hb e => by have := hlt b e; omega
  refine ⟨fw, h.head, ⟨rfl, .inl ⟨rfl, rfl⟩⟩, h.hts, ⟨_, fun q => decide (q < tbC C), h.tks, fun q hq => rowOf_get _ _ _ hq, fun q hq => ?_⟩, ⟨h.head.lt, h.hts.lt, h.tks.lt, fw.fl.lt⟩, h.nd, ⟨key _ h.lo.1, key _ h.lo.2.1, key _ h.lo.2.2⟩, Gr.refl _ _⟩
  constructor
  · intro e; exact .inl (of_decide_eq_true e)
  · rintro (e | ⟨g, hg, _⟩)
    · exact decide_eq_true e
    · omega
theorem LdI.done {v : Value} (hp : 0 < pgC C) (ht : TbO C F fr mv) (hm : ∀ g, g < pgC C → mv g ≤ N) (h : LdI w0 A a C F V c N lim pb hb tb fr mv (pgC C) v wr) : ∃ (X : HtA) (tk : Nat → Bool), X.pb = pb ∧ HtIs wr X A a C F V c N lim ⟨fr, mv, fun _ => 0, tk⟩ ∧ ∀ x ∈ X.all, x = pb ∨ x = hb ∨ x = tb ∨ w0.heap.size ≤ x := by
  obtain ⟨cur, tk, q1, q2, q3⟩ := h.tks
  have hd := h.head
  obtain ⟨l1, l2, l3, l4⟩ := h.lo
  obtain ⟨d1, d2, d3⟩ := h.nd
  rcases h.own.2 with ⟨_, hz⟩ | ⟨lb, cl, curr, hvr, hgr, hhr, x1, x2, hsr, htr⟩
  · omega
  rw [hvr] at hd
  refine ⟨⟨pb, lb, cl, hb, tb⟩, tk, rfl, ⟨h.fl, hp, hd, ⟨curr, hhr, fun g hg => ?_⟩, ⟨_, h.hts, fun g hg => ?_⟩, ⟨cur, q1, q2⟩, fun x hx => ?_, ?_, by omega, ⟨ht.lt, ht.inj, q3⟩, ht.tab, hm, fun g hg => Nat.zero_le _⟩, fun x hx => ?_⟩
  · obtain ⟨s1, s2⟩ := plL_get fr mv (pgC C) hg
    rw [← htr] at s1 s2
    rw [List.getElem?_take, if_pos (by omega), Array.getElem?_toList] at s1 s2
    exact ⟨s1, s2⟩
  · exact rowOf_get _ _ _ hg
  · simp only [HtA.all, List.mem_cons, List.not_mem_nil, or_false] at hx
    rcases hx with rfl | rfl | rfl | rfl
    · exact h.na.1
    · intro e; have := l4 _ e; omega
    · exact h.na.2.1
    · exact h.na.2.2
  · exact ⟨by show pb ≠ lb; omega, d1, d2, by show lb ≠ hb; omega, by show lb ≠ tb; omega, d3⟩
  · simp only [HtA.all, List.mem_cons, List.not_mem_nil, or_false] at hx
    rcases hx with rfl | rfl | rfl | rfl
    · exact .inl rfl
    · exact .inr (.inr (.inr hgr))
    · exact .inr (.inl rfl)
    · exact .inr (.inr (.inl rfl))
set_option maxRecDepth 100000 in
set_option maxHeartbeats 16000000 in
theorem hopen_any (hC : OkC C) (hf : FlD C true F V N D B j) (hd : DevIs w a D) (hN : N < 490000000) (hp : 0 < pgC C) (ht : TbO C F fr mv) (hm : ∀ g, g < pgC C → mv g ≤ N) (hl : 1 ≤ lim) (hl2 : lim < 1000000) :
    Calls Tryz.prog 17 #[.pointer (some ⟨a.bd, 0, none⟩), .int .i64 (lim : Int)] w fun e w' => ∃ (X : HtA) (A : FlA) (tk : Nat → Bool), e = .returned (.tuple #[.pointer (some ⟨X.pb, 0, none⟩), .int .i64 0]) ∧ HtIs w' X A a C F V (fun _ => 0) N lim ⟨fr, mv, fun _ => 0, tk⟩ ∧ (∀ x ∈ X.all ++ A.all (cR C), w.heap.size ≤ x) ∧ Gr [] w w' := by
  obtain ⟨n1, n2, n3, n4, n5, n6⟩ := pg_nums hC hp
  have HP := Lib.hid (And.intro hC (And.intro hp (And.intro ht (And.intro hm hN))))
  have HOp := Lib.hid (flc_open hC hf (by omega) hd)
  have HDL := Lib.hid hd.lt
  have HPl := Lib.hid (fun W => plan_any C hC.wf.1 W)
  obtain ⟨G, hG⟩ : ∃ G, G = pgC C := ⟨_, rfl⟩
  obtain ⟨H, hH⟩ : ∃ H, H = frmC C := ⟨_, rfl⟩
  obtain ⟨T, hT⟩ : ∃ T, T = tbC C := ⟨_, rfl⟩
  have hG7 : G ≤ 2048 := by omega
  have hH7 : H ≤ 2048 := by omega
  have HN := Lib.hid (And.intro hG (And.intro hH (And.intro hT (And.intro n1 (And.intro (show T ≤ H by omega) n2)))))
  rw [← hG, ← hT] at HPl
  obtain ⟨fz, hfz⟩ : ∃ fz, fz = freeC C := ⟨_, rfl⟩
  rw [← hfz] at HPl
  have HFZ := Lib.hid hfz
  have hG0 : ¬ G = 0 := by omega
  have hG0b : ((G : Int) == 0) = false := by simp; omega
  have hl1 : ¬ (lim : Int) < 1 := by omega
  have hl3 : ¬ lim < 1 := by omega
  unfold cfgV at HPl
  clear hf hd hC hp ht hm hN n1 n2 n3 n4 n5 n6 hG hH hT hfz
  go_enter Tryz.func17, Tryz.ntmps17
  go_wp2_with fail
  refine HOp.out.mono ?_
  rintro e w2 ⟨A, rfl, f2, n2, g2⟩
  have H2 := Lib.hid (And.intro f2 (And.intro n2 g2))
  have HCf := Lib.hid (show Calls Tryz.prog 55 #[.pointer (some ⟨A.fb, 0, none⟩)] w2 (fun e w' => e = .returned (.agg #[.int .i64 C.r, .int .i64 C.l, .int .i64 C.s, .int .i64 C.psi, .int .u64 (C.key : Int)]) ∧ Gr [] w2 w') from f2.fl.config)
  clear f2 n2 g2 HOp
  go_wp2_with fail
  refine HCf.out.mono ?_
  rintro e w3 ⟨rfl, g3⟩
  have H3 := Lib.hid (And.intro (H2.out.1.gr0 g3) (H2.out.2.2.trans g3))
  clear g3 HCf
  go_wp2_with fail
  refine (HPl.out _).mono ?_
  rintro e w4 ⟨rfl, g4⟩
  have ga := g4.alloc (Obj.cells #[.int .i64 (G : Int), .int .i64 (T : Int), .int .i64 fz] 104)
  have hh := Holds.new w4 #[.int .i64 (G : Int), .int .i64 (T : Int), .int .i64 fz] 104
  have H4 := Lib.hid (And.intro (H3.out.1.gr0 ga) (And.intro (H3.out.2.trans ga) hh))
  clear g4 ga hh HPl H3
  go_upto_region 9 with fail
  generalize w4.alloc (Obj.cells #[.int .i64 (G : Int), .int .i64 (T : Int), .int .i64 fz] 104) = w5 at *
  obtain ⟨yb, hyb⟩ : ∃ b, w4.heap.size = b := ⟨_, rfl⟩
  rw [hyb] at H4 ⊢
  clear hyb
  have y0 := H4.out.2.2.cell 0
  have y1 := H4.out.2.2.cell 1
  have y2 := H4.out.2.2.cell 2
  go_upto_region 11 with fail
  have mk1 := make_run (.int .i64 0) 8 G (G : Int) rfl Tryz.underlying49 infoI10 rfl (by omega) (by omega)
  have mk2 := make_run (.bool false) 1 H (H : Int) rfl Tryz.underlying52 infoB10 rfl (by omega) (by omega)
  have HLn := Lib.hid (fun W (g : Gr [] w5 W) => (H4.out.1.gr0 g).fl.lines)
  obtain ⟨N8, hN8⟩ : ∃ x, x = cR C * cL C := ⟨_, rfl⟩
  rw [← hN8] at HLn
  have t8 : (N8 : Int).tdiv 8 = (H : Int) := by rw [Int.tdiv_eq_ediv_of_nonneg (by omega)]; have := HN.out; omega
  have wH : IntKind.i64.wrap (H : Int) = (H : Int) := IntWalk.i64_in _ (by omega)
  have S0 : w5.cell? ⟨yb, 0, none⟩ = some (.int .i64 (G : Int)) ∧ w5.cell? ⟨yb, 1, none⟩ = some (.int .i64 (T : Int)) ∧ w5.cell? ⟨yb, 2, none⟩ = some (.int .i64 fz) := ⟨y0, y1, y2⟩
  have S0d := kD3h S0
  clear hN8 y0 y1 y2
  go_cut [9] (fun pv wz => ∃ pb hb tb : Nat, pv = .pointer (some ⟨pb, 0, none⟩) ∧ OpW w5 A C lim pb hb tb wz)
  case first =>
    go_region_held3 (fun w' : World => w'.cell? ⟨yb, 0, none⟩ = some (.int .i64 (G : Int)) ∧ w'.cell? ⟨yb, 1, none⟩ = some (.int .i64 (T : Int)) ∧ w'.cell? ⟨yb, 2, none⟩ = some (.int .i64 fz)) (with_reducible (first | assumption | ((repeat (first | assumption | refine kD3h ?_ | refine kA3h ?_)); done))) ((go_at_call 56; (with_reducible refine (HLn.out _ (by repeat (first | exact Gr.refl _ _ | refine Gr.drew ?_ | refine Gr.alloc ?_ _))).mono ?_); rintro rr w8 ⟨rfl, g8⟩; (with_reducible have S8 := keep3h (by assumption) g8); (first
      | ((with_reducible have yh := afterZ1 g8); have yh1 := yh.1; have yh2 := yh.2; clear yh g8)
      | ((with_reducible have yh2 := afterZ0 g8); clear g8))))
    all_goals (go_wp2_with fail; go_meet)
    all_goals
      obtain ⟨eG, eH, eT, _⟩ := HN.out
      have eF := HFZ.out
      subst eG
      subst eH
      subst eT
      subst eF
    all_goals first
      | exact ⟨_, _, _, rfl, opw_A yh2 yh1⟩
      | exact ⟨_, _, _, rfl, opw_B yh2⟩
      | exact ⟨_, _, _, rfl, opw_C yh2⟩
  case rest =>
    obtain ⟨pb, hb, tb, rfl, ow⟩ := hcut
    obtain ⟨wy, hwy⟩ : ∃ wy, wy = wc := ⟨_, rfl⟩
    rw [← hwy] at ow ⊢
    have HW := Lib.hid ow.start
    have y1 := (H4.out.2.2.gr0 ow.gr).cell 1
    simp only [List.getElem?_toArray, List.getElem?_cons_succ, List.getElem?_cons_zero] at y1
    have hT7 : T ≤ 2048 := by have := HN.out; omega
    have hTH : T ≤ H := HN.out.2.2.2.2.1
    clear hwy ow S0 S0d mk1 mk2 HLn t8 wH
    go_wp2_with fail
    clear y1
    go_loopw [44] (fun iv wr => ∃ n : Nat, iv = .int .i64 (n : Int) ∧ n ≤ T ∧ Hid (OpT w5 A C lim pb hb tb n wr)) (fun iv _ => T - (intOf iv).toNat)
    case atStart => exact ⟨0, rfl, by omega, HW⟩
    case round =>
      clear HW
      obtain ⟨n, rfl, hn, HS⟩ := hrel
      by_cases hnT : n < T
      · as_aux_lemma =>
          have i1 : (n : Int) < (T : Int) := by omega
          have i2 : (n : Int) < (H : Int) := by omega
          have i3 : (0 : Int) ≤ (n : Int) := by omega
          have c7 : wr.cell? ⟨pb, 7, none⟩ = some (.slice (some ⟨tb, 0, none⟩) (frmC C) (frmC C)) := HS.out.head.cell 7
          have tz := (HS.out.tks.cell n).trans (show (tkN C n)[n]? = some (.bool (decide (n < n))) from rowOf_get _ _ _ (by have := HN.out; omega))
          have tf := HS.out.tks.frozen n
          rw [← HN.out.2.1] at c7
          have HX := Lib.hid HS.out.next
          have HI := Lib.hid hnT
          go_wp2_with fail
          clear c7 tz tf
          go_roundw
          case rel => exact ⟨n + 1, by go_num, HI.out, HX⟩
          case measure => simp [intOf]; omega
      · obtain rfl : n = T := by omega
        have ij : ¬ ((n : Int) < (n : Int)) := by omega
        have HLd := Lib.hid (hload_any (lim := lim) (fr := fr) (mv := mv) HP.out.2.1 HP.out.2.2.1 (OpT.ld HP.out.1 HP.out.2.1 H4.out.1 (by have e := HN.out.2.2.1; rw [← e]; exact HS.out)))
        clear hnT hn
        go_wp2_with fail
        refine HLd.out.mono ?_
        rintro e w9 ⟨v, rfl, h9⟩
        have H9 := Lib.hid h9
        clear h9 HLd
        go_wp2_with fail
        go_ret2
        obtain ⟨X, tk, x1, x2, x3⟩ := H9.out.done HP.out.2.1 HP.out.2.2.1 HP.out.2.2.2.1
        have hlo := HS.out.lo
        have hsz := (H4.out.2.1.trans HS.out.gr).size
        have hs5 := H4.out.2.1.size
        refine ⟨X, A, tk, by rw [x1]; rfl, x2, fun x hx => ?_, (H4.out.2.1.trans HS.out.gr).nextN H9.out.gr (fun x hx => .inr ?_)⟩
        · rcases List.mem_append.1 hx with hx | hx
          · rcases x3 x hx with e | e | e | e <;> omega
          · exact H2.out.2.1 x hx
        · simp only [List.mem_cons, List.not_mem_nil, or_false] at hx
          omega
end
end Go.Proofs.YtefmbchebobceaaGreat

/-
  Layer 10: Make.
-/
namespace Go.Proofs.YtefmbchebobceaaGreat
open Go.RowKit
set_option linter.unusedVariables false

def mkF (C : CfgZ) (n : Nat) : Nat → Nat → Nat := fun l k => if 8 * l + k < n then guardN (0 * 65536 + (tbC C + (8 * l + k))) else 0
def mkJ (C : CfgZ) : Nat → (Nat → Nat) × (Nat → Nat)
  | 0 => (fun _ => 0, fun _ => 0)
  | n + 1 => (stJ10 C (qL C (n / 8)) (mkJ C n).1 (mkJ C n).2, stC10 C (qL C (n / 8)) (mkJ C n).2)
theorem mkF_tb {C : CfgZ} (hC : OkC C) (hp : 0 < pgC C) : TbO C (mkF C (pgC C)) (fun g => tbC C + g) (fun _ => 0) := by
  obtain ⟨n1, n2, n3, n4, n5, n6⟩ := pg_nums hC hp
  refine ⟨fun g hg => ⟨by omega, by omega⟩, fun g g2 h1 h2 e => by omega, fun g hg => ?_, fun _ _ => by omega⟩
  show (if 8 * (g / 8) + g % 8 < pgC C then guardN (0 * 65536 + (tbC C + (8 * (g / 8) + g % 8))) else 0) = _
  have e : 8 * (g / 8) + g % 8 = g := Nat.div_add_mod g 8
  rw [e, if_pos hg]
theorem mkF_step {C : CfgZ} (n : Nat) {l k : Nat} (hk : k < 8) : (if l = n / 8 then updF (mkF C n (n / 8)) (n % 8) (guardN (0 * 65536 + (tbC C + n))) k else mkF C n l k) = mkF C (n + 1) l k := by
  have e : 8 * (n / 8) + n % 8 = n := Nat.div_add_mod n 8
  unfold mkF updF
  by_cases h1 : l = n / 8
  · rw [if_pos h1]
    by_cases h2 : k = n % 8
    · rw [if_pos h2, if_pos (by omega)]
      congr 3
      omega
    · rw [if_neg h2]
      subst h1
      show (if 8 * (n / 8) + k < n then guardN (0 * 65536 + (tbC C + (8 * (n / 8) + k))) else 0) = _
      by_cases h3 : 8 * (n / 8) + k < n
      · rw [if_pos h3, if_pos (by omega)]
      · rw [if_neg h3, if_neg (by omega)]
  · rw [if_neg h1]
    by_cases h3 : 8 * l + k < n
    · rw [if_pos h3, if_pos (by omega)]
    · rw [if_neg h3, if_neg (by omega)]
section
variable {w w' : World} {a : DevA} {C : CfgZ}
set_option maxRecDepth 100000 in
set_option maxHeartbeats 16000000 in
theorem hmake_new {n : Nat} (hC : OkC C) (hp : 0 < pgC C) (hn : sizeC C ≤ (n : Int)) (h : DevIs w a (newD n)) :
    Calls Tryz.prog 14 #[.pointer (some ⟨a.bd, 0, none⟩), cfgV C] w fun e w' => ∃ (V : FlV) (D : DevS) (B : Nat → BkS) (j : Nat → Nat), e = .returned (.int .i64 0) ∧ DevIs w' a D ∧ FlD C true (mkF C (pgC C)) V (200000 + 4200 * pgC C) D B j ∧ V.J = (mkJ C (pgC C)).1 ∧ Gr a.all w w' := by
  obtain ⟨n1, n2, n3, n4, n5, n6⟩ := pg_nums hC hp
  have HP := Lib.hid (And.intro hC (And.intro hp (And.intro n1 (And.intro n2 (And.intro n5 n3)))))
  have HPl := Lib.hid (fun W => plan_any C hC.wf.1 W)
  have HMk := Lib.hid (fun W (d : DevIs W a (newD n)) => show Calls Tryz.prog 45 #[.pointer (some ⟨a.bd, 0, none⟩), .agg #[.int .i64 C.r, .int .i64 C.l, .int .i64 C.s, .int .i64 C.psi, .int .u64 (C.key : Int)]] W _ from fl_new hC hn W a d)
  have HAL := Lib.hid h.lt
  obtain ⟨G, hG⟩ : ∃ G, G = pgC C := ⟨_, rfl⟩
  obtain ⟨T, hT⟩ : ∃ T, T = tbC C := ⟨_, rfl⟩
  have hG7 : G ≤ 2048 := by omega
  have hT7 : T ≤ 32 := by omega
  have HN := Lib.hid (And.intro hG hT)
  rw [← hG, ← hT] at HPl
  obtain ⟨fz, hfz⟩ : ∃ fz, fz = freeC C := ⟨_, rfl⟩
  rw [← hfz] at HPl
  have hG0 : ¬ G = 0 := by omega
  have hG0b : ((G : Int) == 0) = false := by simp; omega
  have g0 := (Gr.refl [] w).alloc (Obj.cells (cfgRow C) 39)
  have hh0 := Holds.new w (cfgRow C) 39
  have H1 := Lib.hid (And.intro (h.gr0 g0) (And.intro g0 hh0))
  unfold cfgV at HPl
  unfold cfgV
  unfold cfgRow at H1
  clear h hC hp hn n1 n2 n3 n4 n5 n6 hG hT hfz g0 hh0
  go_enter Tryz.func14, Tryz.ntmps14
  go_upto_region 1 with fail
  generalize (w.alloc (Obj.cells #[.int .i64 C.r, .int .i64 C.l, .int .i64 C.s, .int .i64 C.psi, .int .u64 (C.key : Int)] 39)) = w1 at *
  obtain ⟨cb, hcb⟩ : ∃ b, w.heap.size = b := ⟨_, rfl⟩
  rw [hcb] at H1 ⊢
  have HCB := Lib.hid hcb
  clear hcb
  obtain ⟨c0, c1, c2, c3, c4⟩ := (show w1.cell? ⟨cb, 0, none⟩ = some (.int .i64 C.r) ∧ w1.cell? ⟨cb, 1, none⟩ = some (.int .i64 C.l) ∧ w1.cell? ⟨cb, 2, none⟩ = some (.int .i64 C.s) ∧ w1.cell? ⟨cb, 3, none⟩ = some (.int .i64 C.psi) ∧ w1.cell? ⟨cb, 4, none⟩ = some (.int .u64 (C.key : Int)) from ⟨H1.out.2.2.cell 0, H1.out.2.2.cell 1, H1.out.2.2.cell 2, H1.out.2.2.cell 3, H1.out.2.2.cell 4⟩)
  go_wp2_with fail
  refine (HPl.out _).mono ?_
  rintro e w2 ⟨rfl, g2⟩
  have ga := g2.alloc (Obj.cells #[.int .i64 (G : Int), .int .i64 (T : Int), .int .i64 fz] 104)
  have hy := Holds.new w2 #[.int .i64 (G : Int), .int .i64 (T : Int), .int .i64 fz] 104
  have H3 := Lib.hid (And.intro (H1.out.1.gr0 ga) (And.intro (H1.out.2.1.trans ga) (And.intro (H1.out.2.2.gr0 ga) hy)))
  have HYB := Lib.hid (H1.out.2.1.trans g2).size
  clear g2 ga hy HPl c0 c1 c2 c3 c4
  go_upto_region 4 with fail
  generalize w2.alloc (Obj.cells #[.int .i64 (G : Int), .int .i64 (T : Int), .int .i64 fz] 104) = w3 at *
  obtain ⟨yb, hyb⟩ : ∃ b, w2.heap.size = b := ⟨_, rfl⟩
  rw [hyb] at H3 HYB ⊢
  clear hyb
  obtain ⟨c0, c1, c2, c3, c4⟩ := (show w3.cell? ⟨cb, 0, none⟩ = some (.int .i64 C.r) ∧ w3.cell? ⟨cb, 1, none⟩ = some (.int .i64 C.l) ∧ w3.cell? ⟨cb, 2, none⟩ = some (.int .i64 C.s) ∧ w3.cell? ⟨cb, 3, none⟩ = some (.int .i64 C.psi) ∧ w3.cell? ⟨cb, 4, none⟩ = some (.int .u64 (C.key : Int)) from ⟨H3.out.2.2.1.cell 0, H3.out.2.2.1.cell 1, H3.out.2.2.1.cell 2, H3.out.2.2.1.cell 3, H3.out.2.2.1.cell 4⟩)
  have y0 := H3.out.2.2.2.cell 0
  go_wp2_with fail
  with_reducible refine (HMk.out _ H3.out.1).mono ?_
  rintro e w4 ⟨rfl, d4, f4, g4⟩
  have H4 := Lib.hid (And.intro d4 (And.intro f4 (And.intro ((H3.out.2.1.of0 (cs := a.all)).trans g4) (H3.out.2.2.2.gr g4 (fun e => by have h1 := HAL.out _ e; have h2 := HYB.out; omega)))))
  clear d4 f4 g4 y0 c0 c1 c2 c3 c4 HMk
  go_wp2_with fail
  refine (flc_open HP.out.1 H4.out.2.1 (by omega) H4.out.1).mono ?_
  rintro e w5 ⟨A, rfl, f5, n5, g5⟩
  have H5 := Lib.hid (And.intro f5 (And.intro (H4.out.2.2.2.gr0 g5) (And.intro (H4.out.2.2.1.next0 g5) (show ∀ x ∈ A.all (cR C), w.heap.size ≤ x from fun x hx => Nat.le_trans H4.out.2.2.1.size (n5 x hx)))))
  have HYA := Lib.hid (show yb ∉ A.all (cR C) ++ a.all ∧ w.heap.size ≤ yb from ⟨fun e => by
    rcases List.mem_append.1 e with e | e
    · have h1 := n5 _ e; have h2 := H4.out.2.2.2.lt; omega
    · have h1 := HAL.out _ e; have h2 := HYB.out; omega, HYB.out⟩)
  have y0 := H5.out.2.1.cell 0
  have y1 := H5.out.2.1.cell 1
  have y2 := H5.out.2.1.cell 2
  clear f5 n5 g5 H4
  go_upto_region 13 with fail
  have gp := (Gr.refl [] w5).alloc (Obj.cells #[.pointer (some ⟨A.fb, 0, none⟩), .int .i64 (G : Int), .int .i64 (T : Int), .int .i64 fz, .int .i64 0, .slice none 0 0, .slice none 0 0, .slice none 0 0] 110)
  have hp5 := Holds.new w5 #[.pointer (some ⟨A.fb, 0, none⟩), .int .i64 (G : Int), .int .i64 (T : Int), .int .i64 fz, .int .i64 0, .slice none 0 0, .slice none 0 0, .slice none 0 0] 110
  have H6 := Lib.hid (And.intro (H5.out.1.gr0 gp) (And.intro (H5.out.2.1.gr0 gp) (And.intro (H5.out.2.2.1.next0 gp) hp5)))
  have HPB := Lib.hid (show ∀ x ∈ A.all (cR C) ++ a.all, x < w5.heap.size from H5.out.1.fl.lt)
  clear y0 y1 y2 gp hp5
  have HV0 := Lib.hid (show (vOf C (fun _ => B0) (fun _ => 0) (iL C)).J = (mkJ C 0).1 from rfl)
  generalize vOf C (fun _ => B0) (fun _ => 0) (iL C) = V0 at *
  generalize w5.alloc (Obj.cells #[.pointer (some ⟨A.fb, 0, none⟩), .int .i64 (G : Int), .int .i64 (T : Int), .int .i64 fz, .int .i64 0, .slice none 0 0, .slice none 0 0, .slice none 0 0] 110) = w6 at *
  obtain ⟨pb, hpb⟩ : ∃ b, w5.heap.size = b := ⟨_, rfl⟩
  rw [hpb] at H6 HPB ⊢
  clear hpb
  have y0 := H6.out.2.1.cell 0
  go_wp2_with fail
  clear y0
  go_loopw [39] (fun iv wr => ∃ (n : Nat) (V : FlV), iv = .int .i64 (n : Int) ∧ n ≤ G ∧ Hid (FLc C A a true (mkF C n) V (mkJ C n).2 (200000 + 4200 * n) wr ∧ V.J = (mkJ C n).1 ∧ Holds wr pb #[.pointer (some ⟨A.fb, 0, none⟩), .int .i64 (G : Int), .int .i64 (T : Int), .int .i64 fz, .int .i64 0, .slice none 0 0, .slice none 0 0, .slice none 0 0] 110 ∧ Holds wr yb #[.int .i64 (G : Int), .int .i64 (T : Int), .int .i64 fz] 104 ∧ Gr a.all w wr)) (fun iv _ => G - (intOf iv).toNat)
  case atStart =>
    refine ⟨0, V0, rfl, by omega, Lib.hid ⟨?_, HV0.out, H6.out.2.2.2, H6.out.2.1, H6.out.2.2.1⟩⟩
    have e : mkF C 0 = fun _ _ => 0 := by
      funext l k
      exact if_neg (by omega)
    rw [e]
    exact H6.out.1
  case round =>
    clear H6
    obtain ⟨n, V, rfl, hn, HS⟩ := hrel
    by_cases hnG : n < G
    · as_aux_lemma =>
        have i1 : (n : Int) < (G : Int) := by omega
        have HI := Lib.hid hnG
        obtain ⟨t, ht⟩ : ∃ t, t = T + n := ⟨_, rfl⟩
        have wt : IntKind.i64.wrap ((T : Int) + (n : Int)) = (t : Int) := by rw [show (T : Int) + (n : Int) = (t : Int) by omega]; exact IntWalk.i64_in _ (by omega)
        have HEn := Lib.hid (henter_any (N := 200000 + 4200 * n) HS.out.1 (HS.out.2.2.1.cell 0) (by omega) n t 0 (by omega) (by have := HP.out; have := HN.out; omega) (by omega) (by omega))
        have y1 := HS.out.2.2.2.1.cell 1
        have HTT := Lib.hid ht
        clear ht
        go_wp2_with fail
        refine HEn.out.mono ?_
        rintro e w7 ⟨V7, rfl, e7, f7, g7⟩
        have hst : ∀ l k, l < cR C * cL C → k < 8 → (if l = n / 8 then updF (mkF C n (n / 8)) (n % 8) (guardN (0 * 65536 + t)) k else mkF C n l k) = mkF C (n + 1) l k := fun l k _ hk => by
          rw [HTT.out, HN.out.2]
          exact mkF_step n hk
        have H7 := Lib.hid (show FLc C A a true (mkF C (n + 1)) V7 (mkJ C (n + 1)).2 (200000 + 4200 * (n + 1)) w7 ∧ V7.J = (mkJ C (n + 1)).1 ∧ Holds w7 pb #[.pointer (some ⟨A.fb, 0, none⟩), .int .i64 (G : Int), .int .i64 (T : Int), .int .i64 fz, .int .i64 0, .slice none 0 0, .slice none 0 0, .slice none 0 0] 110 ∧ Holds w7 yb #[.int .i64 (G : Int), .int .i64 (T : Int), .int .i64 fz] 104 ∧ Gr a.all w w7 from
          ⟨(f7.congr hst).more (by omega), by rw [e7, HS.out.2.1]; rfl, HS.out.2.2.1.gr g7 (fun e => by have := HPB.out _ e; omega), HS.out.2.2.2.1.gr g7 HYA.out.1, HS.out.2.2.2.2.nextN g7 (fun x hx => by
            rcases List.mem_append.1 hx with e | e
            · exact .inr (H5.out.2.2.2 x e)
            · exact .inl e)⟩)
        clear e7 f7 g7 hst y1 wt HEn
        go_wp2_with fail
        go_roundw
        case rel => exact ⟨n + 1, V7, by go_num, HI.out, H7⟩
        case measure => simp [intOf]; omega
    · obtain rfl : n = G := by omega
      have ij : ¬ ((n : Int) < (n : Int)) := by omega
      clear hnG hn
      go_wp2_with fail
      go_ret
      obtain ⟨_, D, B, j, q1, q2, q3⟩ := HS.out.1
      have e := HN.out.1
      rw [← e]
      exact ⟨rfl, V, D, q3, ⟨B, j, q1⟩, HS.out.2.1, HS.out.2.2.2.2⟩
end
end Go.Proofs.YtefmbchebobceaaGreat

/-
  Layer 10: Count, Moved; the law's full.
-/
namespace Go.Proofs.YtefmbchebobceaaGreat
open Go.RowKit
set_option linter.unusedVariables false

set_option maxRecDepth 20000 in
set_option maxHeartbeats 2000000 in
theorem full10 (s : ByteArray) (w : World) (hs : s.size ≤ 4611686018427387904) :
    Calls Tryz.prog 21 #[.string s] w fun e w' => e = .returned (.string (fullS s)) ∧ Gr [] w w' := by
  go_enter Tryz.func21, Tryz.ntmps21
  go_wp2_with fail
  refine (repeat64 _).mono ?_
  rintro e w1 ⟨rfl, g1⟩
  have HG := Lib.hid g1
  clear g1
  go_wp2_with fail
  go_ret
  exact ⟨by rw [← extract_full]; rfl, HG.out⟩
set_option maxRecDepth 100000 in
set_option maxHeartbeats 8000000 in
theorem hcount_any (C : CfgZ) (hC : wfC C) (w : World) : Calls Tryz.prog 36 #[cfgV C] w fun e w' => e = .returned (.tuple #[.int .i64 (pgC C : Int), .int .i64 (tbC C : Int), .int .i64 (freeC C)]) ∧ Gr [] w w' := by
  have HPl := Lib.hid (fun W => plan_any C hC W)
  have g0 := (Gr.refl [] w).alloc (Obj.cells (cfgRow C) 39)
  have hh := Holds.new w (cfgRow C) 39
  obtain ⟨G, hG⟩ : ∃ G, G = pgC C := ⟨_, rfl⟩
  obtain ⟨T, hT⟩ : ∃ T, T = tbC C := ⟨_, rfl⟩
  obtain ⟨fz, hfz⟩ : ∃ fz, fz = freeC C := ⟨_, rfl⟩
  rw [← hG, ← hT, ← hfz] at HPl
  rw [← hG, ← hT, ← hfz]
  have H1 := Lib.hid (And.intro g0 hh)
  unfold cfgV at *
  unfold cfgRow at H1
  clear g0 hh hG hT hfz
  go_enter Tryz.func36, Tryz.ntmps36
  go_upto_region 1 with fail
  generalize (w.alloc (Obj.cells #[.int .i64 C.r, .int .i64 C.l, .int .i64 C.s, .int .i64 C.psi, .int .u64 (C.key : Int)] 39)) = w1 at *
  obtain ⟨cb, hcb⟩ : ∃ b, w.heap.size = b := ⟨_, rfl⟩
  rw [hcb] at H1 ⊢
  clear hcb
  obtain ⟨c0, c1, c2, c3, c4⟩ := (show w1.cell? ⟨cb, 0, none⟩ = some (.int .i64 C.r) ∧ w1.cell? ⟨cb, 1, none⟩ = some (.int .i64 C.l) ∧ w1.cell? ⟨cb, 2, none⟩ = some (.int .i64 C.s) ∧ w1.cell? ⟨cb, 3, none⟩ = some (.int .i64 C.psi) ∧ w1.cell? ⟨cb, 4, none⟩ = some (.int .u64 (C.key : Int)) from ⟨H1.out.2.cell 0, H1.out.2.cell 1, H1.out.2.cell 2, H1.out.2.cell 3, H1.out.2.cell 4⟩)
  go_wp2_with fail
  refine (HPl.out _).mono ?_
  rintro e w2 ⟨rfl, g2⟩
  have ga := H1.out.1.trans (g2.alloc (Obj.cells #[.int .i64 (G : Int), .int .i64 (T : Int), .int .i64 fz] 104))
  have hy := Holds.new w2 #[.int .i64 (G : Int), .int .i64 (T : Int), .int .i64 fz] 104
  have H3 := Lib.hid (And.intro ga hy)
  clear g2 ga hy HPl c0 c1 c2 c3 c4 H1
  go_upto_region 2 with fail
  generalize w2.alloc (Obj.cells #[.int .i64 (G : Int), .int .i64 (T : Int), .int .i64 fz] 104) = w3 at *
  obtain ⟨yb, hyb⟩ : ∃ b, w2.heap.size = b := ⟨_, rfl⟩
  rw [hyb] at H3 ⊢
  clear hyb
  have k0 := kp_cell (H3.out.2.cell 0)
  have k1 := kp_cell (H3.out.2.cell 1)
  have k2 := kp_cell (H3.out.2.cell 2)
  have hne := kp_ne w3
  refine wp_region_kp (by kernel_rfl) (by kernel_rfl) ?_
  repeat (go_big_quiet_step (fail))
  with_reducible refine wpQuiet_nil ?_
  rintro _ ⟨y, rfl⟩
  have gy := Lib.hid (H3.out.1.trans (Gr.ofBelow (cs := []) y.h))
  clear k0 k1 k2 hne H3
  generalize y.w = w4 at *
  clear y
  go_wp2_with fail
  go_ret3
  exact ⟨rfl, gy.out⟩
section
variable {w w' : World} {X : HtA} {A : FlA} {a : DevA} {C : CfgZ} {F : Nat → Nat → Nat} {V : FlV} {c : Nat → Nat} {N lim : Nat} {S : HtS}
theorem hmoved_in (h : HtIs w X A a C F V c N lim S) (g : Nat) (hg : g < pgC C) (hN : N < 490000000) : Calls Tryz.prog 35 #[.pointer (some ⟨X.pb, 0, none⟩), .int .i64 (g : Int)] w fun e w' => e = .returned (.int .i64 (S.mv g : Int)) ∧ w' = w := by
  have HH := Lib.hid (hhas_any h (g : Int))
  rw [decide_eq_true (by omega)] at HH
  have c5 := h.hc.2.2.2.2.1
  obtain ⟨l0, l1, l2⟩ := h.plAt hg
  have hcap := h.cap
  have hm7 := h.mvb g hg
  clear h
  obtain ⟨m, hm⟩ : ∃ m, m = S.mv g := ⟨_, rfl⟩
  obtain ⟨G, hG⟩ : ∃ G, G = pgC C := ⟨_, rfl⟩
  rw [← hm] at l1 hm7 ⊢
  rw [← hG] at c5 hg hcap
  have w1 : IntKind.i64.wrap (m : Int) = (m : Int) := IntWalk.i64_in _ (by omega)
  have g1 : (g : Int) < (G : Int) := by omega
  have g0 : (0 : Int) ≤ (g : Int) := by omega
  clear hm hG l0
  go_enter Tryz.func35, Tryz.ntmps35
  go_wp2_with fail
  refine HH.out.mono ?_
  rintro e w2 ⟨rfl, rfl⟩
  go_wp2_with fail
  go_ret
  exact ⟨rfl, rfl⟩
end
end Go.Proofs.YtefmbchebobceaaGreat
