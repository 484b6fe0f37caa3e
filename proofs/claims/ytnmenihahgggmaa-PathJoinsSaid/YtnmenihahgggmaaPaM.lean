/-
  Layer 18: PathJoins.
-/
import Derived.Test.YtnmenihahgggmaaPaK
import Derived.Deep.RegionLaw
namespace Go.Proofs.Ytnmenihahgggmaa
open Go.RowKit Go.Shelf

/-- Strings appended to a slice of one's own, as a step of a region that draws. -/
theorem step_cat {ops : Array Oper} {o : Oper} {a : Act} {w : World} {K : Act → World → Prop} {Q : Exit → Act → World → Prop} {E : Prop}
    (hg : o.guard = none) (s x : Operand) (ho : o.op = .call { callee := .builtin .append, args := #[s, x], argTypes := #[22, 22] })
    (base : Nat) (v : Value) (n : Nat) (xs : List Value) (hs : a.eval s = v) (hown : w.ownsRow base 9 1 v n xs)
    (ao : Option Addr) (m c : Nat) (L : List (List UInt8)) (hx : a.eval x = .slice ao m c) (hL : SlS w (.slice ao m c) L) (h63 : n + m ≤ 1000000) (hbase : base ≤ w.heap.size)
    (h : ∀ v' w', w'.ownsRow base 9 1 v' (n + m) (xs ++ cellsS L) → w.grownBy w' v.ownBlock → K (a.put o.dst v') w') :
    if Region.wanted o (yielded ops a.tmps) = true then Oper.wp Try.prog o a w K Q else E := by
  obtain ⟨i0, hi, hz0, hz1, hz2⟩ := info_parts infoStr
  have hw : Region.wanted o (yielded ops a.tmps) = true := by simp [Region.wanted, hg]
  rw [if_pos hw]
  obtain ⟨q1, q2, q3, q4, q5⟩ := hL.some
  cases ao with
  | none =>
    obtain rfl := q5 rfl
    obtain rfl : m = 0 := by omega
    have hL0 : L = [] := List.length_eq_zero_iff.1 q1.symm
    subst hL0
    have hrun := run_append_owned_none (P := Try.prog) (w := w) base 22 o.type 9 i0 1 Try.underlying22 hi v n xs hown
    unfold Oper.wp
    simp [execOp, ho, resolve, invoke, builtin, hs, hx, hrun, Result.andThen]
    exact h v w (by simpa [cellsS] using hown) ⟨rfl, rfl, rfl, Nat.le_refl _, fun _ _ _ => rfl⟩
  | some ad =>
    exact wp_append_own w s x 22 ho base 9 i0 _ 1 16 Try.underlying22 hi hz0 hz1 hz2 rfl (by decide) v n xs hs hown ad m c (cellsS L) hx (by rw [cellsS_len, q1]) (fun j u hj => q2.cells rfl j u hj) (cellsS_one L) (by unfold maxLen; omega) (by omega) hbase (fun v' w' h2 h3 _ => h v' w' h2 h3)
theorem sl_one (w : World) (x : List UInt8) : SlS (w.alloc (Obj.cells #[.string (bsL x)] 9)) (.slice (some ⟨w.heap.size, 0, none⟩) 1 1) [x] := by
  refine ⟨_, 1, rfl, fun i y hi => ?_, Nat.le_refl _, by unfold maxLen; omega, fun e => by cases e⟩
  have H := Holds.new w #[.string (bsL x)] 9
  match i, hi with
  | 0, hi => simp at hi; subst hi; exact ⟨_, 0, rfl, H.lt, H.cell 0⟩
  | i + 1, hi => simp at hi
theorem own_ne {w : World} {base n b : Nat} {ao : Option Addr} {cap : Nat} {xs : List Value} {t : TypeId} {cs : Array Value} (h : w.ownsRow base 9 1 (.slice ao n cap) n xs) (hz : Holds w b cs t) (ht : t ≠ 9) : ∀ k o, ao = some ⟨k, o, none⟩ → k ≠ b := fun k o e q => by
  have := hz.not_row ht h
  rw [e, q] at this
  exact this rfl
/-- What the law's own way is when it has been made: its struct, the world, the parts. -/
structure Want (wa We : World) (bt : Nat) (A D : Bool) (v : Value) (L : List (List UInt8)) : Prop where
  z : Holds We bt #[.bool A, v, .bool D] 28
  g : Gr [] wa We
  b : wa.heap.size ≤ bt
  s : SlS We v L
theorem want_new {wa w6 : World} {A D : Bool} {ao : Option Addr} {n cap : Nat} {L : List (List UInt8)} (g6 : Gr [] wa w6) (h : w6.ownsRow wa.heap.size 9 1 (.slice ao n cap) n (cellsS L)) :
    Want wa (w6.alloc (Obj.cells #[.bool A, .slice ao n cap, .bool D] 28)) w6.heap.size A D (.slice ao n cap) L :=
  ⟨Holds.new w6 _ _, g6.alloc _, g6.size, (own_slS' h).gr0 ((Gr.refl [] w6).alloc _)⟩
theorem want_set {wa w6 : World} {A D x y : Bool} {u : Value} {ao : Option Addr} {n cap b : Nat} {L : List (List UInt8)} (g6 : Gr [] wa w6) (h : w6.ownsRow wa.heap.size 9 1 (.slice ao n cap) n (cellsS L)) (z : Holds w6 b #[.bool x, u, .bool y] 28) (hb : wa.heap.size ≤ b) :
    Want wa (((w6.setCell ⟨b, 0, none⟩ (.bool A)).setCell ⟨b, 1, none⟩ (.slice ao n cap)).setCell ⟨b, 2, none⟩ (.bool D)) b A D (.slice ao n cap) L :=
  ⟨((z.set 0 _).set 1 _).set 2 _, ((g6.setCell (p := ⟨b, 0, none⟩) (.inr hb) _).setCell (p := ⟨b, 1, none⟩) (.inr hb) _).setCell (p := ⟨b, 2, none⟩) (.inr hb) _, hb,
    (own_slS' h).grB ((((Gr.refl [b] w6).setCell (p := ⟨b, 0, none⟩) (.inl (by simp)) _).setCell (p := ⟨b, 1, none⟩) (.inl (by simp)) _).setCell (p := ⟨b, 2, none⟩) (.inl (by simp)) _) (own_ne h z (by decide))⟩
theorem want_again {wa We : World} {A D A' D' : Bool} {v : Value} {ao : Option Addr} {n cap b : Nat} {L L' : List (List UInt8)} (h : Want wa We b A D v L) (hs : SlS wa (.slice ao n cap) L') :
    Want wa (((We.setCell ⟨b, 0, none⟩ (.bool A')).setCell ⟨b, 1, none⟩ (.slice ao n cap)).setCell ⟨b, 2, none⟩ (.bool D')) b A' D' (.slice ao n cap) L' := by
  have g := ((h.g.setCell (p := ⟨b, 0, none⟩) (.inr h.b) (.bool A')).setCell (p := ⟨b, 1, none⟩) (.inr h.b) (.slice ao n cap)).setCell (p := ⟨b, 2, none⟩) (.inr h.b) (.bool D')
  exact ⟨((h.z.set 0 _).set 1 _).set 2 _, g, h.b, hs.gr0 g⟩
theorem Want.gr0 {wa We W : World} {bt : Nat} {A D : Bool} {v : Value} {L : List (List UInt8)} (h : Want wa We bt A D v L) (g : Gr [] We W) : Want wa W bt A D v L := ⟨h.z.gr0 g, h.g.next0 g, h.b, h.s.gr0 g⟩
set_option maxRecDepth 100000 in
set_option maxHeartbeats 16000000 in
theorem joins_rel {w : World} (S1 S2 : ByteArray) (T1 T2 : List UInt8) (K1 K2 R : List (List UInt8)) (A1 D1 D2 : Bool) (n1 n2 nR m1 m2 : Nat) (hm1 : m1 = min S1.size 200) (hm2 : m2 = min S2.size 200) (hT1 : S1.extract 0 m1 = bsL T1) (hT2 : S2.extract 0 m2 = bsL T2)
    (hs1 : S1.size ≤ 2 ^ 63 - 1) (hs2 : S2.size ≤ 2 ^ 63 - 1)
    (hP1 : ∀ W, Calls Try.prog 7 #[.string (bsL T1)] W fun e w' => ∃ ao cap, e = .returned (.tuple #[.agg #[.bool A1, .slice ao n1 cap, .bool D1], .int .i64 0]) ∧ SlS w' (.slice ao n1 cap) K1 ∧ Gr [] W w')
    (hP2 : ∀ W, Calls Try.prog 7 #[.string (bsL T2)] W fun e w' => ∃ ao cap, e = .returned (.tuple #[.agg #[.bool false, .slice ao n2 cap, .bool D2], .int .i64 0]) ∧ SlS w' (.slice ao n2 cap) K2 ∧ Gr [] W w')
    (hn1 : n1 = K1.length) (hn2 : n2 = K2.length) (hnR : nR = R.length) (hl1 : n1 ≤ 257) (hl2 : n2 ≤ 257) (hR : R = K1 ++ K2) :
    Calls Try.prog 5 #[.string S1, .string S2] w fun e w' => e = .returned (.bool true) ∧ Below w.heap.size w w' := by
  have hmn1 := minAB Try.prog (S1.size : Int) 200 m1 (by omega)
  have hmn2 := minAB Try.prog (S2.size : Int) 200 m2 (by omega)
  have hmm1 : m1 ≤ S1.size := by omega
  have hmm2 : m2 ≤ S2.size := by omega
  clear hm1 hm2
  have hlR : nR ≤ 600 := by rw [hnR, hR]; rw [List.length_append]; omega
  have HP1 := Lib.hid hP1
  have HP2 := Lib.hid hP2
  have HW := Lib.hid wakes18_any
  have HJ := Lib.hid (show ∀ ao1 cap1 ao2 cap2 W, SlS W (.slice ao1 n1 cap1) K1 → SlS W (.slice ao2 n2 cap2) K2 → Calls Try.prog 13 #[.agg #[.bool A1, .slice ao1 n1 cap1, .bool D1], .agg #[.bool false, .slice ao2 n2 cap2, .bool D2]] W fun e w' => ∃ ao cap, e = .returned (.agg #[.bool A1, .slice ao nR cap, .bool D2]) ∧ SlS w' (.slice ao nR cap) R ∧ Gr [] W w' from fun ao1 cap1 ao2 cap2 W q1 q2 => by
    rw [hn1] at q1
    rw [hn2] at q2
    rw [hn1, hn2, hnR]
    exact join_rel A1 D1 D2 K1 K2 R hR ao1 ao2 cap1 cap2 W q1 q2 (by omega) (by omega))
  have HN := Lib.hid (And.intro hn1 (And.intro hn2 (And.intro hnR hR)))
  clear hP1 hP2 hn1 hn2 hnR hR
  have G := Gr.refl [] w
  go_enter Try.func5, Try.ntmps5
  go_wp2_with (first
    | (go_at_call 7; (with_reducible refine (HP1.out _).mono ?_); rintro e w1 ⟨ao1, cap1, rfl, hk1, g1⟩; have G := (G.next0 g1).alloc (Obj.cells #[.bool A1, .slice ao1 n1 cap1, .bool D1] 24); have H1 := Holds.new w1 #[.bool A1, .slice ao1 n1 cap1, .bool D1] 24; have HK1 := Lib.hid (hk1.gr0 ((Gr.refl [] w1).alloc (Obj.cells #[.bool A1, .slice ao1 n1 cap1, .bool D1] 24))))
    | (go_at_call 7; (with_reducible refine (HP2.out _).mono ?_); rintro e w2 ⟨ao2, cap2, rfl, hk2, g2⟩; have g2a := g2.alloc (Obj.cells #[.bool false, .slice ao2 n2 cap2, .bool D2] 24); have G := G.next0 g2a; have H2 := Holds.new w2 #[.bool false, .slice ao2 n2 cap2, .bool D2] 24; have H1b := H1.gr0 g2a; have HK1b := Lib.hid (HK1.out.gr0 g2a); have HK2 := Lib.hid (hk2.gr0 ((Gr.refl [] w2).alloc (Obj.cells #[.bool false, .slice ao2 n2 cap2, .bool D2] 24))))
    | (go_at_call 9; refine (HW.out _).mono ?_; rintro e w3 ⟨rfl, g3⟩; have G := G.next0 g3; have H1c := H1b.gr0 g3; have H2c := H2.gr0 g3; have HK1c := Lib.hid (HK1b.out.gr0 g3); have HK2c := Lib.hid (HK2.out.gr0 g3); have c0 := H1c.cell 0; have c1 := H1c.cell 1; have c2 := H1c.cell 2; have d0 := H2c.cell 0; have d1 := H2c.cell 1; have d2 := H2c.cell 2)
    | (go_at_call 13; (with_reducible refine (HJ.out _ _ _ _ _ HK1c.out HK2c.out).mono ?_); rintro e w4 ⟨ao3, cap3, rfl, hk3, g4⟩; have g4a := g4.alloc (Obj.cells #[.bool A1, .slice ao3 nR cap3, .bool D2] 24); have G := G.next0 g4a; have H3 := Holds.new w4 #[.bool A1, .slice ao3 nR cap3, .bool D2] 24; have H1d := H1c.gr0 g4a; have H2d := H2c.gr0 g4a; have HK1d := Lib.hid (HK1c.out.gr0 g4a); have HK2d := Lib.hid (HK2c.out.gr0 g4a); have HK3 := Lib.hid (hk3.gr0 ((Gr.refl [] w4).alloc (Obj.cells #[.bool A1, .slice ao3 nR cap3, .bool D2] 24)))))
  have hb1 := H1d.lt
  have hb2 := H2d.lt
  have hb3 := H3.lt
  have hne12 : w1.heap.size ≠ w2.heap.size := by have := H1.lt; have := g2.size; omega
  have hne13 : w1.heap.size ≠ w4.heap.size := by have := (H1c.gr0 g4).lt; omega
  have hne23 : w2.heap.size ≠ w4.heap.size := by have := (H2c.gr0 g4).lt; omega
  have HG := Lib.hid G
  clear c0 c1 c2 d0 d1 d2 G
  generalize w4.alloc (Obj.cells #[.bool A1, .slice ao3 nR cap3, .bool D2] 24) = wa at *
  generalize w1.heap.size = b1 at *
  generalize w2.heap.size = b2 at *
  generalize w4.heap.size = b3 at *
  have HB := Lib.hid (show ∀ w5 : World, Gr [] wa w5 → w5.cell? ⟨b1, 0, none⟩ = some (.bool A1) ∧ w5.cell? ⟨b1, 1, none⟩ = some (.slice ao1 n1 cap1) ∧ w5.cell? ⟨b2, 1, none⟩ = some (.slice ao2 n2 cap2) ∧ w5.cell? ⟨b2, 2, none⟩ = some (.bool D2) from fun w5 g => ⟨(H1d.gr0 g).cell 0, (H1d.gr0 g).cell 1, (H2d.gr0 g).cell 1, (H2d.gr0 g).cell 2⟩)
  have e0 := H1d.cell 0
  have e1 := H1d.cell 1
  have e2 := H2d.cell 1
  have e3 := H2d.cell 2
  have HH := Lib.hid (And.intro H1d (And.intro H2d H3))
  have HKK := Lib.hid (And.intro HK1d.out (And.intro HK2d.out HK3.out))
  clear H1 H1b H1c H2 H2c H1d H2d H3 HK1 HK1b HK1c HK2 HK2c HK1d HK2d HK3 hk1 hk2 hk3 g1 g2 g2a g3 g4 g4a hmn1 hmn2 hmm1 hmm2 hT1 hT2
  go_region_held3 (fun w' : World => w'.cell? ⟨b1, 0, none⟩ = some (.bool A1) ∧ w'.cell? ⟨b1, 1, none⟩ = some (.slice ao1 n1 cap1) ∧ w'.cell? ⟨b2, 1, none⟩ = some (.slice ao2 n2 cap2) ∧ w'.cell? ⟨b2, 2, none⟩ = some (.bool D2)) (first | assumption | go_keep) ((first
    | (refine step_cat rfl (.const (.slice none 0 0)) (.tmp 50) rfl wa.heap.size (.slice none 0 0) 0 [] rfl (World.ownsRow_nil _ _ _ _) ao1 n1 cap1 K1 rfl (HKK.out.1.gr0 (Gr.refl [] wa).drew) (by omega) (Nat.le_refl _) ?_; intro v5 w5 hown5 hgrow5; simp only [Nat.zero_add, List.nil_append] at hown5; have g5 := ((Gr.refl [] wa).drew).grown hgrow5 (fun k hk => by simp [Value.ownBlock] at hk); obtain ⟨ao5, cap5, rfl⟩ := own_form hown5; have s5 := HB.out _ g5)
    | (refine step_cat rfl (.const (.slice none 0 0)) (.tmp 50) rfl wa.heap.size (.slice none 0 0) 0 [] rfl (World.ownsRow_nil _ _ _ _) ao1 n1 cap1 K1 rfl (HKK.out.1.gr0 ((Gr.refl [] wa).drew.alloc (Obj.cells #[.bool false, .slice none 0 0, .bool false] 28))) (by omega) (by simp) ?_; intro v5 w5 hown5 hgrow5; simp only [Nat.zero_add, List.nil_append] at hown5; have g5 := ((Gr.refl [] wa).drew.alloc (Obj.cells #[.bool false, .slice none 0 0, .bool false] 28)).grown hgrow5 (fun k hk => by simp [Value.ownBlock] at hk); have z5 : Holds w5 wa.heap.size #[.bool false, .slice none 0 0, .bool false] 28 := (Holds.new wa.drew #[.bool false, .slice none 0 0, .bool false] 28).kept hgrow5 (by simp [Value.ownBlock]); obtain ⟨ao5, cap5, rfl⟩ := own_form hown5; have s5 := HB.out _ g5)
    | (refine step_cat rfl (.tmp 51) (.tmp 53) rfl wa.heap.size (.slice ao5 n1 cap5) n1 (cellsS K1) rfl hown5 ao2 n2 cap2 K2 rfl (HKK.out.2.1.gr0 g5) (by omega) g5.size ?_; intro v6 w6 hown6 hgrow6; have g6 := g5.grown hgrow6 (fun k hk => .inr (hown5.lt k hk).1); obtain ⟨ao6, cap6, rfl⟩ := own_form hown6; have s6 := HB.out _ g6; (first | (have z6 := z5.kept hgrow6 (z5.not_row (by decide) hown5); have y0 := z6.cell 0; have y1 := z6.cell 1; have y2 := z6.cell 2; have f0 := z6.frozen 0; have f1 := z6.frozen 1; have f2 := z6.frozen 2; have x0 := cell_three (v0 := .bool A1) (v1 := .slice ao6 (n1 + n2) cap6) (v2 := .bool D2) s6.1 (show b1 ≠ wa.heap.size by omega); have x1 := cell_three (v0 := .bool A1) (v1 := .slice ao6 (n1 + n2) cap6) (v2 := .bool D2) s6.2.1 (show b1 ≠ wa.heap.size by omega); have x2 := cell_three (v0 := .bool A1) (v1 := .slice ao6 (n1 + n2) cap6) (v2 := .bool D2) s6.2.2.1 (show b2 ≠ wa.heap.size by omega); have x3 := cell_three (v0 := .bool A1) (v1 := .slice ao6 (n1 + n2) cap6) (v2 := .bool D2) s6.2.2.2 (show b2 ≠ wa.heap.size by omega)) | skip))
    | (refine step_cat rfl (.tmp 51) (.tmp 53) rfl wa.heap.size (.slice ao5 n1 cap5) n1 (cellsS K1) rfl (hown5.alloc _) ao2 n2 cap2 K2 rfl (HKK.out.2.1.gr0 (g5.alloc (Obj.cells #[.bool false, .slice none 0 0, .bool false] 28))) (by omega) (g5.alloc (Obj.cells #[.bool false, .slice none 0 0, .bool false] 28)).size ?_; intro v6 w6 hown6 hgrow6; have g6 := (g5.alloc (Obj.cells #[.bool false, .slice none 0 0, .bool false] 28)).grown hgrow6 (fun k hk => .inr (hown5.lt k hk).1); have z6 := (Holds.new w5 #[.bool false, .slice none 0 0, .bool false] 28).kept hgrow6 ((Holds.new w5 #[.bool false, .slice none 0 0, .bool false] 28).not_row (by decide) (hown5.alloc (Obj.cells #[.bool false, .slice none 0 0, .bool false] 28))); have y0 := z6.cell 0; have y1 := z6.cell 1; have y2 := z6.cell 2; have f0 := z6.frozen 0; have f1 := z6.frozen 1; have f2 := z6.frozen 2; obtain ⟨ao6, cap6, rfl⟩ := own_form hown6; have s6 := HB.out _ g6; have l5 := g5.size; have x0 := cell_three (v0 := .bool A1) (v1 := .slice ao6 (n1 + n2) cap6) (v2 := .bool D2) s6.1 (show b1 ≠ w5.heap.size by omega); have x1 := cell_three (v0 := .bool A1) (v1 := .slice ao6 (n1 + n2) cap6) (v2 := .bool D2) s6.2.1 (show b1 ≠ w5.heap.size by omega); have x2 := cell_three (v0 := .bool A1) (v1 := .slice ao6 (n1 + n2) cap6) (v2 := .bool D2) s6.2.2.1 (show b2 ≠ w5.heap.size by omega); have x3 := cell_three (v0 := .bool A1) (v1 := .slice ao6 (n1 + n2) cap6) (v2 := .bool D2) s6.2.2.2 (show b2 ≠ w5.heap.size by omega))))
  all_goals
    have hown7 : w6.ownsRow wa.heap.size 9 1 (.slice ao6 (n1 + n2) cap6) (n1 + n2) (cellsS (K1 ++ K2)) := by rw [cellsS_append]; exact hown6
  · have HWt := Lib.hid (want_new (A := A1) (D := D2) g6 hown7)
    generalize (w6.alloc (Obj.cells #[.bool A1, .slice ao6 (n1 + n2) cap6, .bool D2] 28)) = We at *
    generalize w6.heap.size = bt at *
    clear hown5 hown6 hown7 hgrow5 hgrow6 g5 g6 s5 s6
    have H2e := HH.out.2.1.gr0 HWt.out.g
    have d0 := H2e.cell 0
    have d1 := H2e.cell 1
    have d2 := H2e.cell 2
    have t0 := HWt.out.z.cell 0
    have t1 := HWt.out.z.cell 1
    have t2 := HWt.out.z.cell 2
    have tf0 := HWt.out.z.frozen 0
    have tf1 := HWt.out.z.frozen 1
    have tf2 := HWt.out.z.frozen 2
    have HWf : Hid (Want wa We bt A1 D2 (.slice ao6 (n1 + n2) cap6) (K1 ++ K2)) := Lib.hid (HWt.out)
    have H3f := HH.out.2.2.gr0 HWf.out.g
    have c0 := H3f.cell 0
    have c1 := H3f.cell 1
    have c2 := H3f.cell 2
    have HC3 := Lib.hid (HKK.out.2.2.gr0 HWf.out.g)
    have HGf := Lib.hid (HG.out.next0 HWf.out.g)
    have aa : (A1 == A1) = true := by simp
    have HS1 := Lib.hid (show ∀ W, SlS W (.slice ao3 nR cap3) R → SlS W (.slice ao6 (n1 + n2) cap6) (K1 ++ K2) → Calls Try.prog 10 #[.agg #[.bool A1, .slice ao3 nR cap3, .bool D2], .agg #[.bool A1, .slice ao6 (n1 + n2) cap6, .bool D2]] W fun e w' => e = .returned (.bool true) ∧ Gr [] W w' from fun W q1 q2 => by
      have hl : R.length ≤ 600 := by rw [← HN.out.2.2.1]; exact hlR
      have hx : (K1 ++ K2) = R := HN.out.2.2.2.symm
      rw [hx] at q2
      have hw := q2.some.1
      rw [HN.out.2.2.1] at q1 ⊢
      rw [hw] at q2 ⊢
      have q := same_at A1 D2 A1 D2 R R ao3 ao6 cap3 cap6 W q1 q2 (by omega) (by omega)
      rw [eqW_self] at q
      exact q)
    have HS2 := Lib.hid (show ∀ ao c W, SlS W (.slice ao nR c) R → SlS W (.slice ao3 nR cap3) R → Calls Try.prog 10 #[.agg #[.bool A1, .slice ao nR c, .bool D2], .agg #[.bool A1, .slice ao3 nR cap3, .bool D2]] W fun e w' => e = .returned (.bool true) ∧ Gr [] W w' from fun ao c W q1 q2 => by
      have hl : R.length ≤ 600 := by rw [← HN.out.2.2.1]; exact hlR
      rw [HN.out.2.2.1] at q1 q2 ⊢
      have q := same_at A1 D2 A1 D2 R R ao ao3 c cap3 W q1 q2 (by omega) (by omega)
      rw [eqW_self] at q
      exact q)
    have hl0 := bsL_list []
    rcases List.eq_nil_or_concat R with hR0 | ⟨Rk, x, hR1⟩
    · have hn0 : nR = 0 := by rw [HN.out.2.2.1, hR0]; rfl
      have HLA := Lib.hid (show ∀ W, Calls Try.prog 14 #[.agg #[.bool A1, .slice ao3 nR cap3, .bool D2]] W fun e w' => e = .returned (.tuple #[.agg #[.bool false, .slice none 0 0, .bool false], .string (bsL []), .bool false]) ∧ Gr [] W w' from fun W => by rw [hn0]; exact last_none A1 D2 ao3 cap3 W)
      have HS0 := Lib.hid (show ∀ W, Calls Try.prog 10 #[.agg #[.bool false, .slice none 0 0, .bool false], .agg #[.bool false, .slice none 0 0, .bool false]] W fun e w' => e = .returned (.bool true) ∧ Gr [] W w' from fun W => by
        have q := same_at false false false false [] [] none none 0 0 W (SlS.nil W) (SlS.nil W) (by simp) (by simp)
        rw [eqW_self] at q
        exact q)
      have i0 : ¬ ((0 : Int) < (nR : Int)) := by omega
      have i1 : decide ((0 : Int) < (nR : Int)) = false := decide_eq_false i0
      clear hn0 hR0
      go_wp2_with (first
        | (go_at_call 14; (with_reducible refine (HLA.out _).mono ?_); rintro e w7 ⟨rfl, g7⟩; have g7a := g7.alloc (Obj.cells #[.bool false, .slice none 0 0, .bool false] 24); have HB7 := Holds.new w7 #[.bool false, .slice none 0 0, .bool false] 24; have H3g := H3f.gr0 g7a; have HWg := HWf.out.gr0 g7a; have HC3g := HC3.out.gr0 g7a; have HGg := HGf.out.next0 g7a; have v0 := H3g.cell 0; have v1 := H3g.cell 1; have v2 := H3g.cell 2; have u0 := HWg.z.cell 0; have u1 := HWg.z.cell 1; have u2 := HWg.z.cell 2)
        | (go_at_call 10; (with_reducible refine (HS1.out _ HC3g HWg.s).mono ?_); rintro e w8 ⟨rfl, g8⟩; have H3h := H3g.gr0 g8; have HB8 := HB7.gr0 g8; have HGh := HGg.next0 g8; have p0 := H3h.cell 0; have p1 := H3h.cell 1; have p2 := H3h.cell 2; have o0 := HB8.cell 0; have o1 := HB8.cell 1; have o2 := HB8.cell 2)
        | (go_at_call 10; (with_reducible refine (HS0.out _).mono ?_); rintro e w9 ⟨rfl, g9⟩))
      go_ret
      exact ⟨rfl, (HGh.next0 g9).below0⟩
    · rw [List.concat_eq_append] at hR1
      obtain ⟨nk, hnk⟩ : ∃ nk, nk = Rk.length := ⟨_, rfl⟩
      have hnn : nR = nk + 1 := by rw [HN.out.2.2.1, hR1, hnk]; simp
      have HLA := Lib.hid (show ∀ W, SlS W (.slice ao3 nR cap3) R → Calls Try.prog 14 #[.agg #[.bool A1, .slice ao3 nR cap3, .bool D2]] W fun e w' => ∃ ao' cap', e = .returned (.tuple #[.agg #[.bool A1, .slice ao' nk cap', .bool true], .string (bsL x), .bool true]) ∧ SlS w' (.slice ao' nk cap') Rk ∧ Gr [] W w' from fun W q1 => by
        rw [hR1] at q1
        rw [hnk]
        exact last_some A1 D2 Rk x nR (by rw [HN.out.2.2.1, hR1]) ao3 cap3 W q1 (by omega))
      have HJ2 := Lib.hid (show ∀ ao c ao' c' W, SlS W (.slice ao nk c) Rk → SlS W (.slice ao' 1 c') [x] → Calls Try.prog 13 #[.agg #[.bool A1, .slice ao nk c, .bool true], .agg #[.bool false, .slice ao' 1 c', .bool D2]] W fun e w' => ∃ ao cap, e = .returned (.agg #[.bool A1, .slice ao nR cap, .bool D2]) ∧ SlS w' (.slice ao nR cap) R ∧ Gr [] W w' from fun ao c ao' c' W q1 q2 => by
        rw [HN.out.2.2.1]
        rw [hnk] at q1 ⊢
        exact join_rel A1 true D2 Rk [x] R hR1 ao ao' c c' W q1 q2 (by omega) (by simp))
      have i0 : (0 : Int) < (nR : Int) := by omega
      have i1 : decide ((0 : Int) < (nR : Int)) = true := decide_eq_true i0
      have i2 : decide (0 < nR) = true := decide_eq_true (by omega)
      have i3 : (!decide (0 < nR)) = false := by rw [i2]; rfl
      clear hR1 hnk hnn
      go_wp2_with (first
        | (go_at_call 14; (with_reducible refine (HLA.out _ HC3.out).mono ?_); rintro e w7 ⟨ao7, cap7, rfl, hk7, g7⟩; have g7a := g7.alloc (Obj.cells #[.bool A1, .slice ao7 nk cap7, .bool true] 24); have HB7 := Holds.new w7 #[.bool A1, .slice ao7 nk cap7, .bool true] 24; have hk7a := hk7.gr0 ((Gr.refl [] w7).alloc (Obj.cells #[.bool A1, .slice ao7 nk cap7, .bool true] 24)); have H3g := H3f.gr0 g7a; have HWg := HWf.out.gr0 g7a; have HC3g := HC3.out.gr0 g7a; have HGg := HGf.out.next0 g7a; have v0 := H3g.cell 0; have v1 := H3g.cell 1; have v2 := H3g.cell 2; have u0 := HWg.z.cell 0; have u1 := HWg.z.cell 1; have u2 := HWg.z.cell 2)
        | (go_at_call 10; (with_reducible refine (HS1.out _ HC3g HWg.s).mono ?_); rintro e w8 ⟨rfl, g8⟩; have H3h := H3g.gr0 g8; have HB8 := HB7.gr0 g8; have HGh := HGg.next0 g8; have HC3h := HC3g.gr0 g8; have hk8 := hk7a.gr0 g8; have p0 := H3h.cell 0; have p1 := H3h.cell 1; have p2 := H3h.cell 2; have o0 := HB8.cell 0; have o1 := HB8.cell 1; have o2 := HB8.cell 2; have ga := (Gr.refl [] w8).alloc (Obj.cells #[.string (bsL x)] 9); have pp2 := (H3h.gr0 ga).cell 2; have oo := sl_one w8 x; have hk9 := hk8.gr0 ga)
        | (go_at_call 13; (with_reducible refine (HJ2.out _ _ _ _ _ hk9 oo).mono ?_); rintro e w9 ⟨ao9, cap9, rfl, hkA, g9⟩; have g9a := (ga.next0 g9).alloc (Obj.cells #[.bool A1, .slice ao9 nR cap9, .bool D2] 24); have HB9 := Holds.new w9 #[.bool A1, .slice ao9 nR cap9, .bool D2] 24; have hkB := hkA.gr0 ((Gr.refl [] w9).alloc (Obj.cells #[.bool A1, .slice ao9 nR cap9, .bool D2] 24)); have H3i := H3h.gr0 g9a; have HBi := HB8.gr0 g9a; have HC3i := HC3h.gr0 g9a; have HGi := HGh.next0 g9a; have j0 := H3i.cell 0; have j1 := H3i.cell 1; have j2 := H3i.cell 2; have k0 := HBi.cell 0; have k1 := HBi.cell 1; have k2 := HBi.cell 2; have l0 := HB9.cell 0; have l1 := HB9.cell 1; have l2 := HB9.cell 2)
        | (go_at_call 10; (with_reducible refine (HS2.out _ _ _ hkB HC3i).mono ?_); rintro e wA ⟨rfl, gA⟩))
      go_ret
      exact ⟨rfl, (HGi.next0 gA).below0⟩
  · have HWt := Lib.hid (want_set (A := A1) (D := D2) g6 hown7 z6 g5.size)
    clear x0 x1 x2 x3 y0 y1 y2 f0 f1 f2 z6
    generalize (((w6.setCell ⟨w5.heap.size, 0, none⟩ (.bool A1)).setCell ⟨w5.heap.size, 1, none⟩ (.slice ao6 (n1 + n2) cap6)).setCell ⟨w5.heap.size, 2, none⟩ (.bool D2)) = We at *
    generalize w5.heap.size = bt at *
    clear hown5 hown6 hown7 hgrow5 hgrow6 g5 g6 s5 s6
    have H2e := HH.out.2.1.gr0 HWt.out.g
    have d0 := H2e.cell 0
    have d1 := H2e.cell 1
    have d2 := H2e.cell 2
    have t0 := HWt.out.z.cell 0
    have t1 := HWt.out.z.cell 1
    have t2 := HWt.out.z.cell 2
    have tf0 := HWt.out.z.frozen 0
    have tf1 := HWt.out.z.frozen 1
    have tf2 := HWt.out.z.frozen 2
    have HWf : Hid (Want wa We bt A1 D2 (.slice ao6 (n1 + n2) cap6) (K1 ++ K2)) := Lib.hid (HWt.out)
    have H3f := HH.out.2.2.gr0 HWf.out.g
    have c0 := H3f.cell 0
    have c1 := H3f.cell 1
    have c2 := H3f.cell 2
    have HC3 := Lib.hid (HKK.out.2.2.gr0 HWf.out.g)
    have HGf := Lib.hid (HG.out.next0 HWf.out.g)
    have aa : (A1 == A1) = true := by simp
    have HS1 := Lib.hid (show ∀ W, SlS W (.slice ao3 nR cap3) R → SlS W (.slice ao6 (n1 + n2) cap6) (K1 ++ K2) → Calls Try.prog 10 #[.agg #[.bool A1, .slice ao3 nR cap3, .bool D2], .agg #[.bool A1, .slice ao6 (n1 + n2) cap6, .bool D2]] W fun e w' => e = .returned (.bool true) ∧ Gr [] W w' from fun W q1 q2 => by
      have hl : R.length ≤ 600 := by rw [← HN.out.2.2.1]; exact hlR
      have hx : (K1 ++ K2) = R := HN.out.2.2.2.symm
      rw [hx] at q2
      have hw := q2.some.1
      rw [HN.out.2.2.1] at q1 ⊢
      rw [hw] at q2 ⊢
      have q := same_at A1 D2 A1 D2 R R ao3 ao6 cap3 cap6 W q1 q2 (by omega) (by omega)
      rw [eqW_self] at q
      exact q)
    have HS2 := Lib.hid (show ∀ ao c W, SlS W (.slice ao nR c) R → SlS W (.slice ao3 nR cap3) R → Calls Try.prog 10 #[.agg #[.bool A1, .slice ao nR c, .bool D2], .agg #[.bool A1, .slice ao3 nR cap3, .bool D2]] W fun e w' => e = .returned (.bool true) ∧ Gr [] W w' from fun ao c W q1 q2 => by
      have hl : R.length ≤ 600 := by rw [← HN.out.2.2.1]; exact hlR
      rw [HN.out.2.2.1] at q1 q2 ⊢
      have q := same_at A1 D2 A1 D2 R R ao ao3 c cap3 W q1 q2 (by omega) (by omega)
      rw [eqW_self] at q
      exact q)
    have hl0 := bsL_list []
    rcases List.eq_nil_or_concat R with hR0 | ⟨Rk, x, hR1⟩
    · have hn0 : nR = 0 := by rw [HN.out.2.2.1, hR0]; rfl
      have HLA := Lib.hid (show ∀ W, Calls Try.prog 14 #[.agg #[.bool A1, .slice ao3 nR cap3, .bool D2]] W fun e w' => e = .returned (.tuple #[.agg #[.bool false, .slice none 0 0, .bool false], .string (bsL []), .bool false]) ∧ Gr [] W w' from fun W => by rw [hn0]; exact last_none A1 D2 ao3 cap3 W)
      have HS0 := Lib.hid (show ∀ W, Calls Try.prog 10 #[.agg #[.bool false, .slice none 0 0, .bool false], .agg #[.bool false, .slice none 0 0, .bool false]] W fun e w' => e = .returned (.bool true) ∧ Gr [] W w' from fun W => by
        have q := same_at false false false false [] [] none none 0 0 W (SlS.nil W) (SlS.nil W) (by simp) (by simp)
        rw [eqW_self] at q
        exact q)
      have i0 : ¬ ((0 : Int) < (nR : Int)) := by omega
      have i1 : decide ((0 : Int) < (nR : Int)) = false := decide_eq_false i0
      clear hn0 hR0
      go_wp2_with (first
        | (go_at_call 14; (with_reducible refine (HLA.out _).mono ?_); rintro e w7 ⟨rfl, g7⟩; have g7a := g7.alloc (Obj.cells #[.bool false, .slice none 0 0, .bool false] 24); have HB7 := Holds.new w7 #[.bool false, .slice none 0 0, .bool false] 24; have H3g := H3f.gr0 g7a; have HWg := HWf.out.gr0 g7a; have HC3g := HC3.out.gr0 g7a; have HGg := HGf.out.next0 g7a; have v0 := H3g.cell 0; have v1 := H3g.cell 1; have v2 := H3g.cell 2; have u0 := HWg.z.cell 0; have u1 := HWg.z.cell 1; have u2 := HWg.z.cell 2)
        | (go_at_call 10; (with_reducible refine (HS1.out _ HC3g HWg.s).mono ?_); rintro e w8 ⟨rfl, g8⟩; have H3h := H3g.gr0 g8; have HB8 := HB7.gr0 g8; have HGh := HGg.next0 g8; have p0 := H3h.cell 0; have p1 := H3h.cell 1; have p2 := H3h.cell 2; have o0 := HB8.cell 0; have o1 := HB8.cell 1; have o2 := HB8.cell 2)
        | (go_at_call 10; (with_reducible refine (HS0.out _).mono ?_); rintro e w9 ⟨rfl, g9⟩))
      go_ret
      exact ⟨rfl, (HGh.next0 g9).below0⟩
    · rw [List.concat_eq_append] at hR1
      obtain ⟨nk, hnk⟩ : ∃ nk, nk = Rk.length := ⟨_, rfl⟩
      have hnn : nR = nk + 1 := by rw [HN.out.2.2.1, hR1, hnk]; simp
      have HLA := Lib.hid (show ∀ W, SlS W (.slice ao3 nR cap3) R → Calls Try.prog 14 #[.agg #[.bool A1, .slice ao3 nR cap3, .bool D2]] W fun e w' => ∃ ao' cap', e = .returned (.tuple #[.agg #[.bool A1, .slice ao' nk cap', .bool true], .string (bsL x), .bool true]) ∧ SlS w' (.slice ao' nk cap') Rk ∧ Gr [] W w' from fun W q1 => by
        rw [hR1] at q1
        rw [hnk]
        exact last_some A1 D2 Rk x nR (by rw [HN.out.2.2.1, hR1]) ao3 cap3 W q1 (by omega))
      have HJ2 := Lib.hid (show ∀ ao c ao' c' W, SlS W (.slice ao nk c) Rk → SlS W (.slice ao' 1 c') [x] → Calls Try.prog 13 #[.agg #[.bool A1, .slice ao nk c, .bool true], .agg #[.bool false, .slice ao' 1 c', .bool D2]] W fun e w' => ∃ ao cap, e = .returned (.agg #[.bool A1, .slice ao nR cap, .bool D2]) ∧ SlS w' (.slice ao nR cap) R ∧ Gr [] W w' from fun ao c ao' c' W q1 q2 => by
        rw [HN.out.2.2.1]
        rw [hnk] at q1 ⊢
        exact join_rel A1 true D2 Rk [x] R hR1 ao ao' c c' W q1 q2 (by omega) (by simp))
      have i0 : (0 : Int) < (nR : Int) := by omega
      have i1 : decide ((0 : Int) < (nR : Int)) = true := decide_eq_true i0
      have i2 : decide (0 < nR) = true := decide_eq_true (by omega)
      have i3 : (!decide (0 < nR)) = false := by rw [i2]; rfl
      clear hR1 hnk hnn
      go_wp2_with (first
        | (go_at_call 14; (with_reducible refine (HLA.out _ HC3.out).mono ?_); rintro e w7 ⟨ao7, cap7, rfl, hk7, g7⟩; have g7a := g7.alloc (Obj.cells #[.bool A1, .slice ao7 nk cap7, .bool true] 24); have HB7 := Holds.new w7 #[.bool A1, .slice ao7 nk cap7, .bool true] 24; have hk7a := hk7.gr0 ((Gr.refl [] w7).alloc (Obj.cells #[.bool A1, .slice ao7 nk cap7, .bool true] 24)); have H3g := H3f.gr0 g7a; have HWg := HWf.out.gr0 g7a; have HC3g := HC3.out.gr0 g7a; have HGg := HGf.out.next0 g7a; have v0 := H3g.cell 0; have v1 := H3g.cell 1; have v2 := H3g.cell 2; have u0 := HWg.z.cell 0; have u1 := HWg.z.cell 1; have u2 := HWg.z.cell 2)
        | (go_at_call 10; (with_reducible refine (HS1.out _ HC3g HWg.s).mono ?_); rintro e w8 ⟨rfl, g8⟩; have H3h := H3g.gr0 g8; have HB8 := HB7.gr0 g8; have HGh := HGg.next0 g8; have HC3h := HC3g.gr0 g8; have hk8 := hk7a.gr0 g8; have p0 := H3h.cell 0; have p1 := H3h.cell 1; have p2 := H3h.cell 2; have o0 := HB8.cell 0; have o1 := HB8.cell 1; have o2 := HB8.cell 2; have ga := (Gr.refl [] w8).alloc (Obj.cells #[.string (bsL x)] 9); have pp2 := (H3h.gr0 ga).cell 2; have oo := sl_one w8 x; have hk9 := hk8.gr0 ga)
        | (go_at_call 13; (with_reducible refine (HJ2.out _ _ _ _ _ hk9 oo).mono ?_); rintro e w9 ⟨ao9, cap9, rfl, hkA, g9⟩; have g9a := (ga.next0 g9).alloc (Obj.cells #[.bool A1, .slice ao9 nR cap9, .bool D2] 24); have HB9 := Holds.new w9 #[.bool A1, .slice ao9 nR cap9, .bool D2] 24; have hkB := hkA.gr0 ((Gr.refl [] w9).alloc (Obj.cells #[.bool A1, .slice ao9 nR cap9, .bool D2] 24)); have H3i := H3h.gr0 g9a; have HBi := HB8.gr0 g9a; have HC3i := HC3h.gr0 g9a; have HGi := HGh.next0 g9a; have j0 := H3i.cell 0; have j1 := H3i.cell 1; have j2 := H3i.cell 2; have k0 := HBi.cell 0; have k1 := HBi.cell 1; have k2 := HBi.cell 2; have l0 := HB9.cell 0; have l1 := HB9.cell 1; have l2 := HB9.cell 2)
        | (go_at_call 10; (with_reducible refine (HS2.out _ _ _ hkB HC3i).mono ?_); rintro e wA ⟨rfl, gA⟩))
      go_ret
      exact ⟨rfl, (HGi.next0 gA).below0⟩
  · have HWt := Lib.hid (want_set (A := A1) (D := D2) g6 hown7 z6 (Nat.le_refl _))
    clear x0 x1 x2 x3 y0 y1 y2 f0 f1 f2 z6 z5
    have hba := hb1
    generalize hWe : (((w6.setCell ⟨wa.heap.size, 0, none⟩ (.bool A1)).setCell ⟨wa.heap.size, 1, none⟩ (.slice ao6 (n1 + n2) cap6)).setCell ⟨wa.heap.size, 2, none⟩ (.bool D2)) = We at HWt ⊢
    generalize hbt : wa.heap.size = bt at HWt ⊢
    clear hWe hbt
    clear hown5 hown6 hown7 hgrow5 hgrow6 g5 g6 s5 s6
    have H2e := HH.out.2.1.gr0 HWt.out.g
    have d0 := H2e.cell 0
    have d1 := H2e.cell 1
    have d2 := H2e.cell 2
    have t0 := HWt.out.z.cell 0
    have t1 := HWt.out.z.cell 1
    have t2 := HWt.out.z.cell 2
    have tf0 := HWt.out.z.frozen 0
    have tf1 := HWt.out.z.frozen 1
    have tf2 := HWt.out.z.frozen 2
    have HWf : Hid (Want wa We bt A1 D2 (.slice ao6 (n1 + n2) cap6) (K1 ++ K2)) := Lib.hid (HWt.out)
    have H3f := HH.out.2.2.gr0 HWf.out.g
    have c0 := H3f.cell 0
    have c1 := H3f.cell 1
    have c2 := H3f.cell 2
    have HC3 := Lib.hid (HKK.out.2.2.gr0 HWf.out.g)
    have HGf := Lib.hid (HG.out.next0 HWf.out.g)
    have aa : (A1 == A1) = true := by simp
    have HS1 := Lib.hid (show ∀ W, SlS W (.slice ao3 nR cap3) R → SlS W (.slice ao6 (n1 + n2) cap6) (K1 ++ K2) → Calls Try.prog 10 #[.agg #[.bool A1, .slice ao3 nR cap3, .bool D2], .agg #[.bool A1, .slice ao6 (n1 + n2) cap6, .bool D2]] W fun e w' => e = .returned (.bool true) ∧ Gr [] W w' from fun W q1 q2 => by
      have hl : R.length ≤ 600 := by rw [← HN.out.2.2.1]; exact hlR
      have hx : (K1 ++ K2) = R := HN.out.2.2.2.symm
      rw [hx] at q2
      have hw := q2.some.1
      rw [HN.out.2.2.1] at q1 ⊢
      rw [hw] at q2 ⊢
      have q := same_at A1 D2 A1 D2 R R ao3 ao6 cap3 cap6 W q1 q2 (by omega) (by omega)
      rw [eqW_self] at q
      exact q)
    have HS2 := Lib.hid (show ∀ ao c W, SlS W (.slice ao nR c) R → SlS W (.slice ao3 nR cap3) R → Calls Try.prog 10 #[.agg #[.bool A1, .slice ao nR c, .bool D2], .agg #[.bool A1, .slice ao3 nR cap3, .bool D2]] W fun e w' => e = .returned (.bool true) ∧ Gr [] W w' from fun ao c W q1 q2 => by
      have hl : R.length ≤ 600 := by rw [← HN.out.2.2.1]; exact hlR
      rw [HN.out.2.2.1] at q1 q2 ⊢
      have q := same_at A1 D2 A1 D2 R R ao ao3 c cap3 W q1 q2 (by omega) (by omega)
      rw [eqW_self] at q
      exact q)
    have hl0 := bsL_list []
    rcases List.eq_nil_or_concat R with hR0 | ⟨Rk, x, hR1⟩
    · have hn0 : nR = 0 := by rw [HN.out.2.2.1, hR0]; rfl
      have HLA := Lib.hid (show ∀ W, Calls Try.prog 14 #[.agg #[.bool A1, .slice ao3 nR cap3, .bool D2]] W fun e w' => e = .returned (.tuple #[.agg #[.bool false, .slice none 0 0, .bool false], .string (bsL []), .bool false]) ∧ Gr [] W w' from fun W => by rw [hn0]; exact last_none A1 D2 ao3 cap3 W)
      have HS0 := Lib.hid (show ∀ W, Calls Try.prog 10 #[.agg #[.bool false, .slice none 0 0, .bool false], .agg #[.bool false, .slice none 0 0, .bool false]] W fun e w' => e = .returned (.bool true) ∧ Gr [] W w' from fun W => by
        have q := same_at false false false false [] [] none none 0 0 W (SlS.nil W) (SlS.nil W) (by simp) (by simp)
        rw [eqW_self] at q
        exact q)
      have i0 : ¬ ((0 : Int) < (nR : Int)) := by omega
      have i1 : decide ((0 : Int) < (nR : Int)) = false := decide_eq_false i0
      clear hn0 hR0
      go_wp2_with (first
        | (go_at_call 14; (with_reducible refine (HLA.out _).mono ?_); rintro e w7 ⟨rfl, g7⟩; have g7a := g7.alloc (Obj.cells #[.bool false, .slice none 0 0, .bool false] 24); have HB7 := Holds.new w7 #[.bool false, .slice none 0 0, .bool false] 24; have H3g := H3f.gr0 g7a; have HWg := HWf.out.gr0 g7a; have HC3g := HC3.out.gr0 g7a; have HGg := HGf.out.next0 g7a; have v0 := H3g.cell 0; have v1 := H3g.cell 1; have v2 := H3g.cell 2; have u0 := HWg.z.cell 0; have u1 := HWg.z.cell 1; have u2 := HWg.z.cell 2)
        | (go_at_call 10; (with_reducible refine (HS1.out _ HC3g HWg.s).mono ?_); rintro e w8 ⟨rfl, g8⟩; have H3h := H3g.gr0 g8; have HB8 := HB7.gr0 g8; have HGh := HGg.next0 g8; have p0 := H3h.cell 0; have p1 := H3h.cell 1; have p2 := H3h.cell 2; have o0 := HB8.cell 0; have o1 := HB8.cell 1; have o2 := HB8.cell 2)
        | (go_at_call 10; (with_reducible refine (HS0.out _).mono ?_); rintro e w9 ⟨rfl, g9⟩))
      go_ret
      exact ⟨rfl, (HGh.next0 g9).below0⟩
    · rw [List.concat_eq_append] at hR1
      obtain ⟨nk, hnk⟩ : ∃ nk, nk = Rk.length := ⟨_, rfl⟩
      have hnn : nR = nk + 1 := by rw [HN.out.2.2.1, hR1, hnk]; simp
      have HLA := Lib.hid (show ∀ W, SlS W (.slice ao3 nR cap3) R → Calls Try.prog 14 #[.agg #[.bool A1, .slice ao3 nR cap3, .bool D2]] W fun e w' => ∃ ao' cap', e = .returned (.tuple #[.agg #[.bool A1, .slice ao' nk cap', .bool true], .string (bsL x), .bool true]) ∧ SlS w' (.slice ao' nk cap') Rk ∧ Gr [] W w' from fun W q1 => by
        rw [hR1] at q1
        rw [hnk]
        exact last_some A1 D2 Rk x nR (by rw [HN.out.2.2.1, hR1]) ao3 cap3 W q1 (by omega))
      have HJ2 := Lib.hid (show ∀ ao c ao' c' W, SlS W (.slice ao nk c) Rk → SlS W (.slice ao' 1 c') [x] → Calls Try.prog 13 #[.agg #[.bool A1, .slice ao nk c, .bool true], .agg #[.bool false, .slice ao' 1 c', .bool D2]] W fun e w' => ∃ ao cap, e = .returned (.agg #[.bool A1, .slice ao nR cap, .bool D2]) ∧ SlS w' (.slice ao nR cap) R ∧ Gr [] W w' from fun ao c ao' c' W q1 q2 => by
        rw [HN.out.2.2.1]
        rw [hnk] at q1 ⊢
        exact join_rel A1 true D2 Rk [x] R hR1 ao ao' c c' W q1 q2 (by omega) (by simp))
      have i0 : (0 : Int) < (nR : Int) := by omega
      have i1 : decide ((0 : Int) < (nR : Int)) = true := decide_eq_true i0
      have i2 : decide (0 < nR) = true := decide_eq_true (by omega)
      have i3 : (!decide (0 < nR)) = false := by rw [i2]; rfl
      clear hR1 hnk hnn
      go_wp2_with (first
        | (go_at_call 14; (with_reducible refine (HLA.out _ HC3.out).mono ?_); rintro e w7 ⟨ao7, cap7, rfl, hk7, g7⟩; have g7a := g7.alloc (Obj.cells #[.bool A1, .slice ao7 nk cap7, .bool true] 24); have HB7 := Holds.new w7 #[.bool A1, .slice ao7 nk cap7, .bool true] 24; have hk7a := hk7.gr0 ((Gr.refl [] w7).alloc (Obj.cells #[.bool A1, .slice ao7 nk cap7, .bool true] 24)); have H3g := H3f.gr0 g7a; have HWg := HWf.out.gr0 g7a; have HC3g := HC3.out.gr0 g7a; have HGg := HGf.out.next0 g7a; have v0 := H3g.cell 0; have v1 := H3g.cell 1; have v2 := H3g.cell 2; have u0 := HWg.z.cell 0; have u1 := HWg.z.cell 1; have u2 := HWg.z.cell 2)
        | (go_at_call 10; (with_reducible refine (HS1.out _ HC3g HWg.s).mono ?_); rintro e w8 ⟨rfl, g8⟩; have H3h := H3g.gr0 g8; have HB8 := HB7.gr0 g8; have HGh := HGg.next0 g8; have HC3h := HC3g.gr0 g8; have hk8 := hk7a.gr0 g8; have p0 := H3h.cell 0; have p1 := H3h.cell 1; have p2 := H3h.cell 2; have o0 := HB8.cell 0; have o1 := HB8.cell 1; have o2 := HB8.cell 2; have ga := (Gr.refl [] w8).alloc (Obj.cells #[.string (bsL x)] 9); have pp2 := (H3h.gr0 ga).cell 2; have oo := sl_one w8 x; have hk9 := hk8.gr0 ga)
        | (go_at_call 13; (with_reducible refine (HJ2.out _ _ _ _ _ hk9 oo).mono ?_); rintro e w9 ⟨ao9, cap9, rfl, hkA, g9⟩; have g9a := (ga.next0 g9).alloc (Obj.cells #[.bool A1, .slice ao9 nR cap9, .bool D2] 24); have HB9 := Holds.new w9 #[.bool A1, .slice ao9 nR cap9, .bool D2] 24; have hkB := hkA.gr0 ((Gr.refl [] w9).alloc (Obj.cells #[.bool A1, .slice ao9 nR cap9, .bool D2] 24)); have H3i := H3h.gr0 g9a; have HBi := HB8.gr0 g9a; have HC3i := HC3h.gr0 g9a; have HGi := HGh.next0 g9a; have j0 := H3i.cell 0; have j1 := H3i.cell 1; have j2 := H3i.cell 2; have k0 := HBi.cell 0; have k1 := HBi.cell 1; have k2 := HBi.cell 2; have l0 := HB9.cell 0; have l1 := HB9.cell 1; have l2 := HB9.cell 2)
        | (go_at_call 10; (with_reducible refine (HS2.out _ _ _ hkB HC3i).mono ?_); rintro e wA ⟨rfl, gA⟩))
      go_ret
      exact ⟨rfl, (HGi.next0 gA).below0⟩
set_option maxRecDepth 100000 in
set_option maxHeartbeats 16000000 in
theorem joins_abs {w : World} (S1 S2 : ByteArray) (T1 T2 : List UInt8) (K1 K2 R : List (List UInt8)) (A1 D1 D2 : Bool) (n1 n2 nR m1 m2 : Nat) (hm1 : m1 = min S1.size 200) (hm2 : m2 = min S2.size 200) (hT1 : S1.extract 0 m1 = bsL T1) (hT2 : S2.extract 0 m2 = bsL T2)
    (hs1 : S1.size ≤ 2 ^ 63 - 1) (hs2 : S2.size ≤ 2 ^ 63 - 1)
    (hP1 : ∀ W, Calls Try.prog 7 #[.string (bsL T1)] W fun e w' => ∃ ao cap, e = .returned (.tuple #[.agg #[.bool A1, .slice ao n1 cap, .bool D1], .int .i64 0]) ∧ SlS w' (.slice ao n1 cap) K1 ∧ Gr [] W w')
    (hP2 : ∀ W, Calls Try.prog 7 #[.string (bsL T2)] W fun e w' => ∃ ao cap, e = .returned (.tuple #[.agg #[.bool true, .slice ao n2 cap, .bool D2], .int .i64 0]) ∧ SlS w' (.slice ao n2 cap) K2 ∧ Gr [] W w')
    (hn1 : n1 = K1.length) (hn2 : n2 = K2.length) (hnR : nR = R.length) (hl1 : n1 ≤ 257) (hl2 : n2 ≤ 257) (hR : R = K2) :
    Calls Try.prog 5 #[.string S1, .string S2] w fun e w' => e = .returned (.bool true) ∧ Below w.heap.size w w' := by
  have hmn1 := minAB Try.prog (S1.size : Int) 200 m1 (by omega)
  have hmn2 := minAB Try.prog (S2.size : Int) 200 m2 (by omega)
  have hmm1 : m1 ≤ S1.size := by omega
  have hmm2 : m2 ≤ S2.size := by omega
  clear hm1 hm2
  have hlR : nR ≤ 600 := by rw [hnR, hR]; omega
  have HP1 := Lib.hid hP1
  have HP2 := Lib.hid hP2
  have HW := Lib.hid wakes18_any
  have HJ := Lib.hid (show ∀ ao1 cap1 ao2 cap2 W, SlS W (.slice ao1 n1 cap1) K1 → SlS W (.slice ao2 n2 cap2) K2 → Calls Try.prog 13 #[.agg #[.bool A1, .slice ao1 n1 cap1, .bool D1], .agg #[.bool true, .slice ao2 n2 cap2, .bool D2]] W fun e w' => ∃ ao cap, e = .returned (.agg #[.bool true, .slice ao nR cap, .bool D2]) ∧ SlS w' (.slice ao nR cap) R ∧ Gr [] W w' from fun ao1 cap1 ao2 cap2 W q1 q2 => by
    rw [hn1] at q1
    rw [hn2] at q2
    rw [hn1, hn2, hnR]
    rw [hR]; exact join_abs A1 D1 D2 ao1 K1.length cap1 K2 ao2 cap2 W q2 (by omega))
  have HN := Lib.hid (And.intro hn1 (And.intro hn2 (And.intro hnR hR)))
  clear hP1 hP2 hn1 hn2 hnR hR
  have G := Gr.refl [] w
  go_enter Try.func5, Try.ntmps5
  go_wp2_with (first
    | (go_at_call 7; (with_reducible refine (HP1.out _).mono ?_); rintro e w1 ⟨ao1, cap1, rfl, hk1, g1⟩; have G := (G.next0 g1).alloc (Obj.cells #[.bool A1, .slice ao1 n1 cap1, .bool D1] 24); have H1 := Holds.new w1 #[.bool A1, .slice ao1 n1 cap1, .bool D1] 24; have HK1 := Lib.hid (hk1.gr0 ((Gr.refl [] w1).alloc (Obj.cells #[.bool A1, .slice ao1 n1 cap1, .bool D1] 24))))
    | (go_at_call 7; (with_reducible refine (HP2.out _).mono ?_); rintro e w2 ⟨ao2, cap2, rfl, hk2, g2⟩; have g2a := g2.alloc (Obj.cells #[.bool true, .slice ao2 n2 cap2, .bool D2] 24); have G := G.next0 g2a; have H2 := Holds.new w2 #[.bool true, .slice ao2 n2 cap2, .bool D2] 24; have H1b := H1.gr0 g2a; have HK1b := Lib.hid (HK1.out.gr0 g2a); have HK2 := Lib.hid (hk2.gr0 ((Gr.refl [] w2).alloc (Obj.cells #[.bool true, .slice ao2 n2 cap2, .bool D2] 24))))
    | (go_at_call 9; refine (HW.out _).mono ?_; rintro e w3 ⟨rfl, g3⟩; have G := G.next0 g3; have H1c := H1b.gr0 g3; have H2c := H2.gr0 g3; have HK1c := Lib.hid (HK1b.out.gr0 g3); have HK2c := Lib.hid (HK2.out.gr0 g3); have c0 := H1c.cell 0; have c1 := H1c.cell 1; have c2 := H1c.cell 2; have d0 := H2c.cell 0; have d1 := H2c.cell 1; have d2 := H2c.cell 2)
    | (go_at_call 13; (with_reducible refine (HJ.out _ _ _ _ _ HK1c.out HK2c.out).mono ?_); rintro e w4 ⟨ao3, cap3, rfl, hk3, g4⟩; have g4a := g4.alloc (Obj.cells #[.bool true, .slice ao3 nR cap3, .bool D2] 24); have G := G.next0 g4a; have H3 := Holds.new w4 #[.bool true, .slice ao3 nR cap3, .bool D2] 24; have H1d := H1c.gr0 g4a; have H2d := H2c.gr0 g4a; have HK1d := Lib.hid (HK1c.out.gr0 g4a); have HK2d := Lib.hid (HK2c.out.gr0 g4a); have HK3 := Lib.hid (hk3.gr0 ((Gr.refl [] w4).alloc (Obj.cells #[.bool true, .slice ao3 nR cap3, .bool D2] 24)))))
  have hb1 := H1d.lt
  have hb2 := H2d.lt
  have hb3 := H3.lt
  have hne12 : w1.heap.size ≠ w2.heap.size := by have := H1.lt; have := g2.size; omega
  have hne13 : w1.heap.size ≠ w4.heap.size := by have := (H1c.gr0 g4).lt; omega
  have hne23 : w2.heap.size ≠ w4.heap.size := by have := (H2c.gr0 g4).lt; omega
  have HG := Lib.hid G
  clear c0 c1 c2 d0 d1 d2 G
  generalize w4.alloc (Obj.cells #[.bool true, .slice ao3 nR cap3, .bool D2] 24) = wa at *
  generalize w1.heap.size = b1 at *
  generalize w2.heap.size = b2 at *
  generalize w4.heap.size = b3 at *
  have HB := Lib.hid (show ∀ w5 : World, Gr [] wa w5 → w5.cell? ⟨b1, 0, none⟩ = some (.bool A1) ∧ w5.cell? ⟨b1, 1, none⟩ = some (.slice ao1 n1 cap1) ∧ w5.cell? ⟨b2, 1, none⟩ = some (.slice ao2 n2 cap2) ∧ w5.cell? ⟨b2, 2, none⟩ = some (.bool D2) from fun w5 g => ⟨(H1d.gr0 g).cell 0, (H1d.gr0 g).cell 1, (H2d.gr0 g).cell 1, (H2d.gr0 g).cell 2⟩)
  have e0 := H1d.cell 0
  have e1 := H1d.cell 1
  have e2 := H2d.cell 1
  have e3 := H2d.cell 2
  have HH := Lib.hid (And.intro H1d (And.intro H2d H3))
  have HKK := Lib.hid (And.intro HK1d.out (And.intro HK2d.out HK3.out))
  clear H1 H1b H1c H2 H2c H1d H2d H3 HK1 HK1b HK1c HK2 HK2c HK1d HK2d HK3 hk1 hk2 hk3 g1 g2 g2a g3 g4 g4a hmn1 hmn2 hmm1 hmm2 hT1 hT2
  go_region_held3 (fun w' : World => w'.cell? ⟨b1, 0, none⟩ = some (.bool A1) ∧ w'.cell? ⟨b1, 1, none⟩ = some (.slice ao1 n1 cap1) ∧ w'.cell? ⟨b2, 1, none⟩ = some (.slice ao2 n2 cap2) ∧ w'.cell? ⟨b2, 2, none⟩ = some (.bool D2)) (first | assumption | go_keep) ((first
    | (refine step_cat rfl (.const (.slice none 0 0)) (.tmp 50) rfl wa.heap.size (.slice none 0 0) 0 [] rfl (World.ownsRow_nil _ _ _ _) ao1 n1 cap1 K1 rfl (HKK.out.1.gr0 (Gr.refl [] wa).drew) (by omega) (Nat.le_refl _) ?_; intro v5 w5 hown5 hgrow5; simp only [Nat.zero_add, List.nil_append] at hown5; have g5 := ((Gr.refl [] wa).drew).grown hgrow5 (fun k hk => by simp [Value.ownBlock] at hk); obtain ⟨ao5, cap5, rfl⟩ := own_form hown5; have s5 := HB.out _ g5)
    | (refine step_cat rfl (.const (.slice none 0 0)) (.tmp 50) rfl wa.heap.size (.slice none 0 0) 0 [] rfl (World.ownsRow_nil _ _ _ _) ao1 n1 cap1 K1 rfl (HKK.out.1.gr0 ((Gr.refl [] wa).drew.alloc (Obj.cells #[.bool false, .slice none 0 0, .bool false] 28))) (by omega) (by simp) ?_; intro v5 w5 hown5 hgrow5; simp only [Nat.zero_add, List.nil_append] at hown5; have g5 := ((Gr.refl [] wa).drew.alloc (Obj.cells #[.bool false, .slice none 0 0, .bool false] 28)).grown hgrow5 (fun k hk => by simp [Value.ownBlock] at hk); have z5 : Holds w5 wa.heap.size #[.bool false, .slice none 0 0, .bool false] 28 := (Holds.new wa.drew #[.bool false, .slice none 0 0, .bool false] 28).kept hgrow5 (by simp [Value.ownBlock]); obtain ⟨ao5, cap5, rfl⟩ := own_form hown5; have s5 := HB.out _ g5)
    | (refine step_cat rfl (.tmp 51) (.tmp 53) rfl wa.heap.size (.slice ao5 n1 cap5) n1 (cellsS K1) rfl hown5 ao2 n2 cap2 K2 rfl (HKK.out.2.1.gr0 g5) (by omega) g5.size ?_; intro v6 w6 hown6 hgrow6; have g6 := g5.grown hgrow6 (fun k hk => .inr (hown5.lt k hk).1); obtain ⟨ao6, cap6, rfl⟩ := own_form hown6; have s6 := HB.out _ g6; (first | (have z6 := z5.kept hgrow6 (z5.not_row (by decide) hown5); have y0 := z6.cell 0; have y1 := z6.cell 1; have y2 := z6.cell 2; have f0 := z6.frozen 0; have f1 := z6.frozen 1; have f2 := z6.frozen 2; have x0 := cell_three (v0 := .bool A1) (v1 := .slice ao6 (n1 + n2) cap6) (v2 := .bool D2) s6.1 (show b1 ≠ wa.heap.size by omega); have x1 := cell_three (v0 := .bool A1) (v1 := .slice ao6 (n1 + n2) cap6) (v2 := .bool D2) s6.2.1 (show b1 ≠ wa.heap.size by omega); have x2 := cell_three (v0 := .bool A1) (v1 := .slice ao6 (n1 + n2) cap6) (v2 := .bool D2) s6.2.2.1 (show b2 ≠ wa.heap.size by omega); have x3 := cell_three (v0 := .bool A1) (v1 := .slice ao6 (n1 + n2) cap6) (v2 := .bool D2) s6.2.2.2 (show b2 ≠ wa.heap.size by omega)) | skip))
    | (refine step_cat rfl (.tmp 51) (.tmp 53) rfl wa.heap.size (.slice ao5 n1 cap5) n1 (cellsS K1) rfl (hown5.alloc _) ao2 n2 cap2 K2 rfl (HKK.out.2.1.gr0 (g5.alloc (Obj.cells #[.bool false, .slice none 0 0, .bool false] 28))) (by omega) (g5.alloc (Obj.cells #[.bool false, .slice none 0 0, .bool false] 28)).size ?_; intro v6 w6 hown6 hgrow6; have g6 := (g5.alloc (Obj.cells #[.bool false, .slice none 0 0, .bool false] 28)).grown hgrow6 (fun k hk => .inr (hown5.lt k hk).1); have z6 := (Holds.new w5 #[.bool false, .slice none 0 0, .bool false] 28).kept hgrow6 ((Holds.new w5 #[.bool false, .slice none 0 0, .bool false] 28).not_row (by decide) (hown5.alloc (Obj.cells #[.bool false, .slice none 0 0, .bool false] 28))); have y0 := z6.cell 0; have y1 := z6.cell 1; have y2 := z6.cell 2; have f0 := z6.frozen 0; have f1 := z6.frozen 1; have f2 := z6.frozen 2; obtain ⟨ao6, cap6, rfl⟩ := own_form hown6; have s6 := HB.out _ g6; have l5 := g5.size; have x0 := cell_three (v0 := .bool A1) (v1 := .slice ao6 (n1 + n2) cap6) (v2 := .bool D2) s6.1 (show b1 ≠ w5.heap.size by omega); have x1 := cell_three (v0 := .bool A1) (v1 := .slice ao6 (n1 + n2) cap6) (v2 := .bool D2) s6.2.1 (show b1 ≠ w5.heap.size by omega); have x2 := cell_three (v0 := .bool A1) (v1 := .slice ao6 (n1 + n2) cap6) (v2 := .bool D2) s6.2.2.1 (show b2 ≠ w5.heap.size by omega); have x3 := cell_three (v0 := .bool A1) (v1 := .slice ao6 (n1 + n2) cap6) (v2 := .bool D2) s6.2.2.2 (show b2 ≠ w5.heap.size by omega))))
  all_goals
    have hown7 : w6.ownsRow wa.heap.size 9 1 (.slice ao6 (n1 + n2) cap6) (n1 + n2) (cellsS (K1 ++ K2)) := by rw [cellsS_append]; exact hown6
  · have HWt := Lib.hid (want_new (A := A1) (D := D2) g6 hown7)
    generalize (w6.alloc (Obj.cells #[.bool A1, .slice ao6 (n1 + n2) cap6, .bool D2] 28)) = We at *
    generalize w6.heap.size = bt at *
    clear hown5 hown6 hown7 hgrow5 hgrow6 g5 g6 s5 s6
    have H2e := HH.out.2.1.gr0 HWt.out.g
    have d0 := H2e.cell 0
    have d1 := H2e.cell 1
    have d2 := H2e.cell 2
    have t0 := HWt.out.z.cell 0
    have t1 := HWt.out.z.cell 1
    have t2 := HWt.out.z.cell 2
    have tf0 := HWt.out.z.frozen 0
    have tf1 := HWt.out.z.frozen 1
    have tf2 := HWt.out.z.frozen 2
    have HWf : Hid (Want wa (((We.setCell ⟨bt, 0, none⟩ (.bool true)).setCell ⟨bt, 1, none⟩ (.slice ao2 n2 cap2)).setCell ⟨bt, 2, none⟩ (.bool D2)) bt true D2 (.slice ao2 n2 cap2) (K2)) := Lib.hid (want_again HWt.out HKK.out.2.1)
    have H3f := HH.out.2.2.gr0 HWf.out.g
    have c0 := H3f.cell 0
    have c1 := H3f.cell 1
    have c2 := H3f.cell 2
    have HC3 := Lib.hid (HKK.out.2.2.gr0 HWf.out.g)
    have HGf := Lib.hid (HG.out.next0 HWf.out.g)
    have aa : (true == true) = true := by simp
    have HS1 := Lib.hid (show ∀ W, SlS W (.slice ao3 nR cap3) R → SlS W (.slice ao2 n2 cap2) (K2) → Calls Try.prog 10 #[.agg #[.bool true, .slice ao3 nR cap3, .bool D2], .agg #[.bool true, .slice ao2 n2 cap2, .bool D2]] W fun e w' => e = .returned (.bool true) ∧ Gr [] W w' from fun W q1 q2 => by
      have hl : R.length ≤ 600 := by rw [← HN.out.2.2.1]; exact hlR
      have hx : (K2) = R := HN.out.2.2.2.symm
      rw [hx] at q2
      have hw := q2.some.1
      rw [HN.out.2.2.1] at q1 ⊢
      rw [hw] at q2 ⊢
      have q := same_at true D2 true D2 R R ao3 ao2 cap3 cap2 W q1 q2 (by omega) (by omega)
      rw [eqW_self] at q
      exact q)
    have HS2 := Lib.hid (show ∀ ao c W, SlS W (.slice ao nR c) R → SlS W (.slice ao3 nR cap3) R → Calls Try.prog 10 #[.agg #[.bool true, .slice ao nR c, .bool D2], .agg #[.bool true, .slice ao3 nR cap3, .bool D2]] W fun e w' => e = .returned (.bool true) ∧ Gr [] W w' from fun ao c W q1 q2 => by
      have hl : R.length ≤ 600 := by rw [← HN.out.2.2.1]; exact hlR
      rw [HN.out.2.2.1] at q1 q2 ⊢
      have q := same_at true D2 true D2 R R ao ao3 c cap3 W q1 q2 (by omega) (by omega)
      rw [eqW_self] at q
      exact q)
    have hl0 := bsL_list []
    rcases List.eq_nil_or_concat R with hR0 | ⟨Rk, x, hR1⟩
    · have hn0 : nR = 0 := by rw [HN.out.2.2.1, hR0]; rfl
      have HLA := Lib.hid (show ∀ W, Calls Try.prog 14 #[.agg #[.bool true, .slice ao3 nR cap3, .bool D2]] W fun e w' => e = .returned (.tuple #[.agg #[.bool false, .slice none 0 0, .bool false], .string (bsL []), .bool false]) ∧ Gr [] W w' from fun W => by rw [hn0]; exact last_none true D2 ao3 cap3 W)
      have HS0 := Lib.hid (show ∀ W, Calls Try.prog 10 #[.agg #[.bool false, .slice none 0 0, .bool false], .agg #[.bool false, .slice none 0 0, .bool false]] W fun e w' => e = .returned (.bool true) ∧ Gr [] W w' from fun W => by
        have q := same_at false false false false [] [] none none 0 0 W (SlS.nil W) (SlS.nil W) (by simp) (by simp)
        rw [eqW_self] at q
        exact q)
      have i0 : ¬ ((0 : Int) < (nR : Int)) := by omega
      have i1 : decide ((0 : Int) < (nR : Int)) = false := decide_eq_false i0
      clear hn0 hR0
      go_wp2_with (first
        | (go_at_call 14; (with_reducible refine (HLA.out _).mono ?_); rintro e w7 ⟨rfl, g7⟩; have g7a := g7.alloc (Obj.cells #[.bool false, .slice none 0 0, .bool false] 24); have HB7 := Holds.new w7 #[.bool false, .slice none 0 0, .bool false] 24; have H3g := H3f.gr0 g7a; have HWg := HWf.out.gr0 g7a; have HC3g := HC3.out.gr0 g7a; have HGg := HGf.out.next0 g7a; have v0 := H3g.cell 0; have v1 := H3g.cell 1; have v2 := H3g.cell 2; have u0 := HWg.z.cell 0; have u1 := HWg.z.cell 1; have u2 := HWg.z.cell 2)
        | (go_at_call 10; (with_reducible refine (HS1.out _ HC3g HWg.s).mono ?_); rintro e w8 ⟨rfl, g8⟩; have H3h := H3g.gr0 g8; have HB8 := HB7.gr0 g8; have HGh := HGg.next0 g8; have p0 := H3h.cell 0; have p1 := H3h.cell 1; have p2 := H3h.cell 2; have o0 := HB8.cell 0; have o1 := HB8.cell 1; have o2 := HB8.cell 2)
        | (go_at_call 10; (with_reducible refine (HS0.out _).mono ?_); rintro e w9 ⟨rfl, g9⟩))
      go_ret
      exact ⟨rfl, (HGh.next0 g9).below0⟩
    · rw [List.concat_eq_append] at hR1
      obtain ⟨nk, hnk⟩ : ∃ nk, nk = Rk.length := ⟨_, rfl⟩
      have hnn : nR = nk + 1 := by rw [HN.out.2.2.1, hR1, hnk]; simp
      have HLA := Lib.hid (show ∀ W, SlS W (.slice ao3 nR cap3) R → Calls Try.prog 14 #[.agg #[.bool true, .slice ao3 nR cap3, .bool D2]] W fun e w' => ∃ ao' cap', e = .returned (.tuple #[.agg #[.bool true, .slice ao' nk cap', .bool true], .string (bsL x), .bool true]) ∧ SlS w' (.slice ao' nk cap') Rk ∧ Gr [] W w' from fun W q1 => by
        rw [hR1] at q1
        rw [hnk]
        exact last_some true D2 Rk x nR (by rw [HN.out.2.2.1, hR1]) ao3 cap3 W q1 (by omega))
      have HJ2 := Lib.hid (show ∀ ao c ao' c' W, SlS W (.slice ao nk c) Rk → SlS W (.slice ao' 1 c') [x] → Calls Try.prog 13 #[.agg #[.bool true, .slice ao nk c, .bool true], .agg #[.bool false, .slice ao' 1 c', .bool D2]] W fun e w' => ∃ ao cap, e = .returned (.agg #[.bool true, .slice ao nR cap, .bool D2]) ∧ SlS w' (.slice ao nR cap) R ∧ Gr [] W w' from fun ao c ao' c' W q1 q2 => by
        rw [HN.out.2.2.1]
        rw [hnk] at q1 ⊢
        exact join_rel true true D2 Rk [x] R hR1 ao ao' c c' W q1 q2 (by omega) (by simp))
      have i0 : (0 : Int) < (nR : Int) := by omega
      have i1 : decide ((0 : Int) < (nR : Int)) = true := decide_eq_true i0
      have i2 : decide (0 < nR) = true := decide_eq_true (by omega)
      have i3 : (!decide (0 < nR)) = false := by rw [i2]; rfl
      clear hR1 hnk hnn
      go_wp2_with (first
        | (go_at_call 14; (with_reducible refine (HLA.out _ HC3.out).mono ?_); rintro e w7 ⟨ao7, cap7, rfl, hk7, g7⟩; have g7a := g7.alloc (Obj.cells #[.bool true, .slice ao7 nk cap7, .bool true] 24); have HB7 := Holds.new w7 #[.bool true, .slice ao7 nk cap7, .bool true] 24; have hk7a := hk7.gr0 ((Gr.refl [] w7).alloc (Obj.cells #[.bool true, .slice ao7 nk cap7, .bool true] 24)); have H3g := H3f.gr0 g7a; have HWg := HWf.out.gr0 g7a; have HC3g := HC3.out.gr0 g7a; have HGg := HGf.out.next0 g7a; have v0 := H3g.cell 0; have v1 := H3g.cell 1; have v2 := H3g.cell 2; have u0 := HWg.z.cell 0; have u1 := HWg.z.cell 1; have u2 := HWg.z.cell 2)
        | (go_at_call 10; (with_reducible refine (HS1.out _ HC3g HWg.s).mono ?_); rintro e w8 ⟨rfl, g8⟩; have H3h := H3g.gr0 g8; have HB8 := HB7.gr0 g8; have HGh := HGg.next0 g8; have HC3h := HC3g.gr0 g8; have hk8 := hk7a.gr0 g8; have p0 := H3h.cell 0; have p1 := H3h.cell 1; have p2 := H3h.cell 2; have o0 := HB8.cell 0; have o1 := HB8.cell 1; have o2 := HB8.cell 2; have ga := (Gr.refl [] w8).alloc (Obj.cells #[.string (bsL x)] 9); have pp2 := (H3h.gr0 ga).cell 2; have oo := sl_one w8 x; have hk9 := hk8.gr0 ga)
        | (go_at_call 13; (with_reducible refine (HJ2.out _ _ _ _ _ hk9 oo).mono ?_); rintro e w9 ⟨ao9, cap9, rfl, hkA, g9⟩; have g9a := (ga.next0 g9).alloc (Obj.cells #[.bool true, .slice ao9 nR cap9, .bool D2] 24); have HB9 := Holds.new w9 #[.bool true, .slice ao9 nR cap9, .bool D2] 24; have hkB := hkA.gr0 ((Gr.refl [] w9).alloc (Obj.cells #[.bool true, .slice ao9 nR cap9, .bool D2] 24)); have H3i := H3h.gr0 g9a; have HBi := HB8.gr0 g9a; have HC3i := HC3h.gr0 g9a; have HGi := HGh.next0 g9a; have j0 := H3i.cell 0; have j1 := H3i.cell 1; have j2 := H3i.cell 2; have k0 := HBi.cell 0; have k1 := HBi.cell 1; have k2 := HBi.cell 2; have l0 := HB9.cell 0; have l1 := HB9.cell 1; have l2 := HB9.cell 2)
        | (go_at_call 10; (with_reducible refine (HS2.out _ _ _ hkB HC3i).mono ?_); rintro e wA ⟨rfl, gA⟩))
      go_ret
      exact ⟨rfl, (HGi.next0 gA).below0⟩
  · have HWt := Lib.hid (want_set (A := A1) (D := D2) g6 hown7 z6 g5.size)
    clear x0 x1 x2 x3 y0 y1 y2 f0 f1 f2 z6
    generalize (((w6.setCell ⟨w5.heap.size, 0, none⟩ (.bool A1)).setCell ⟨w5.heap.size, 1, none⟩ (.slice ao6 (n1 + n2) cap6)).setCell ⟨w5.heap.size, 2, none⟩ (.bool D2)) = We at *
    generalize w5.heap.size = bt at *
    clear hown5 hown6 hown7 hgrow5 hgrow6 g5 g6 s5 s6
    have H2e := HH.out.2.1.gr0 HWt.out.g
    have d0 := H2e.cell 0
    have d1 := H2e.cell 1
    have d2 := H2e.cell 2
    have t0 := HWt.out.z.cell 0
    have t1 := HWt.out.z.cell 1
    have t2 := HWt.out.z.cell 2
    have tf0 := HWt.out.z.frozen 0
    have tf1 := HWt.out.z.frozen 1
    have tf2 := HWt.out.z.frozen 2
    have HWf : Hid (Want wa (((We.setCell ⟨bt, 0, none⟩ (.bool true)).setCell ⟨bt, 1, none⟩ (.slice ao2 n2 cap2)).setCell ⟨bt, 2, none⟩ (.bool D2)) bt true D2 (.slice ao2 n2 cap2) (K2)) := Lib.hid (want_again HWt.out HKK.out.2.1)
    have H3f := HH.out.2.2.gr0 HWf.out.g
    have c0 := H3f.cell 0
    have c1 := H3f.cell 1
    have c2 := H3f.cell 2
    have HC3 := Lib.hid (HKK.out.2.2.gr0 HWf.out.g)
    have HGf := Lib.hid (HG.out.next0 HWf.out.g)
    have aa : (true == true) = true := by simp
    have HS1 := Lib.hid (show ∀ W, SlS W (.slice ao3 nR cap3) R → SlS W (.slice ao2 n2 cap2) (K2) → Calls Try.prog 10 #[.agg #[.bool true, .slice ao3 nR cap3, .bool D2], .agg #[.bool true, .slice ao2 n2 cap2, .bool D2]] W fun e w' => e = .returned (.bool true) ∧ Gr [] W w' from fun W q1 q2 => by
      have hl : R.length ≤ 600 := by rw [← HN.out.2.2.1]; exact hlR
      have hx : (K2) = R := HN.out.2.2.2.symm
      rw [hx] at q2
      have hw := q2.some.1
      rw [HN.out.2.2.1] at q1 ⊢
      rw [hw] at q2 ⊢
      have q := same_at true D2 true D2 R R ao3 ao2 cap3 cap2 W q1 q2 (by omega) (by omega)
      rw [eqW_self] at q
      exact q)
    have HS2 := Lib.hid (show ∀ ao c W, SlS W (.slice ao nR c) R → SlS W (.slice ao3 nR cap3) R → Calls Try.prog 10 #[.agg #[.bool true, .slice ao nR c, .bool D2], .agg #[.bool true, .slice ao3 nR cap3, .bool D2]] W fun e w' => e = .returned (.bool true) ∧ Gr [] W w' from fun ao c W q1 q2 => by
      have hl : R.length ≤ 600 := by rw [← HN.out.2.2.1]; exact hlR
      rw [HN.out.2.2.1] at q1 q2 ⊢
      have q := same_at true D2 true D2 R R ao ao3 c cap3 W q1 q2 (by omega) (by omega)
      rw [eqW_self] at q
      exact q)
    have hl0 := bsL_list []
    rcases List.eq_nil_or_concat R with hR0 | ⟨Rk, x, hR1⟩
    · have hn0 : nR = 0 := by rw [HN.out.2.2.1, hR0]; rfl
      have HLA := Lib.hid (show ∀ W, Calls Try.prog 14 #[.agg #[.bool true, .slice ao3 nR cap3, .bool D2]] W fun e w' => e = .returned (.tuple #[.agg #[.bool false, .slice none 0 0, .bool false], .string (bsL []), .bool false]) ∧ Gr [] W w' from fun W => by rw [hn0]; exact last_none true D2 ao3 cap3 W)
      have HS0 := Lib.hid (show ∀ W, Calls Try.prog 10 #[.agg #[.bool false, .slice none 0 0, .bool false], .agg #[.bool false, .slice none 0 0, .bool false]] W fun e w' => e = .returned (.bool true) ∧ Gr [] W w' from fun W => by
        have q := same_at false false false false [] [] none none 0 0 W (SlS.nil W) (SlS.nil W) (by simp) (by simp)
        rw [eqW_self] at q
        exact q)
      have i0 : ¬ ((0 : Int) < (nR : Int)) := by omega
      have i1 : decide ((0 : Int) < (nR : Int)) = false := decide_eq_false i0
      clear hn0 hR0
      go_wp2_with (first
        | (go_at_call 14; (with_reducible refine (HLA.out _).mono ?_); rintro e w7 ⟨rfl, g7⟩; have g7a := g7.alloc (Obj.cells #[.bool false, .slice none 0 0, .bool false] 24); have HB7 := Holds.new w7 #[.bool false, .slice none 0 0, .bool false] 24; have H3g := H3f.gr0 g7a; have HWg := HWf.out.gr0 g7a; have HC3g := HC3.out.gr0 g7a; have HGg := HGf.out.next0 g7a; have v0 := H3g.cell 0; have v1 := H3g.cell 1; have v2 := H3g.cell 2; have u0 := HWg.z.cell 0; have u1 := HWg.z.cell 1; have u2 := HWg.z.cell 2)
        | (go_at_call 10; (with_reducible refine (HS1.out _ HC3g HWg.s).mono ?_); rintro e w8 ⟨rfl, g8⟩; have H3h := H3g.gr0 g8; have HB8 := HB7.gr0 g8; have HGh := HGg.next0 g8; have p0 := H3h.cell 0; have p1 := H3h.cell 1; have p2 := H3h.cell 2; have o0 := HB8.cell 0; have o1 := HB8.cell 1; have o2 := HB8.cell 2)
        | (go_at_call 10; (with_reducible refine (HS0.out _).mono ?_); rintro e w9 ⟨rfl, g9⟩))
      go_ret
      exact ⟨rfl, (HGh.next0 g9).below0⟩
    · rw [List.concat_eq_append] at hR1
      obtain ⟨nk, hnk⟩ : ∃ nk, nk = Rk.length := ⟨_, rfl⟩
      have hnn : nR = nk + 1 := by rw [HN.out.2.2.1, hR1, hnk]; simp
      have HLA := Lib.hid (show ∀ W, SlS W (.slice ao3 nR cap3) R → Calls Try.prog 14 #[.agg #[.bool true, .slice ao3 nR cap3, .bool D2]] W fun e w' => ∃ ao' cap', e = .returned (.tuple #[.agg #[.bool true, .slice ao' nk cap', .bool true], .string (bsL x), .bool true]) ∧ SlS w' (.slice ao' nk cap') Rk ∧ Gr [] W w' from fun W q1 => by
        rw [hR1] at q1
        rw [hnk]
        exact last_some true D2 Rk x nR (by rw [HN.out.2.2.1, hR1]) ao3 cap3 W q1 (by omega))
      have HJ2 := Lib.hid (show ∀ ao c ao' c' W, SlS W (.slice ao nk c) Rk → SlS W (.slice ao' 1 c') [x] → Calls Try.prog 13 #[.agg #[.bool true, .slice ao nk c, .bool true], .agg #[.bool false, .slice ao' 1 c', .bool D2]] W fun e w' => ∃ ao cap, e = .returned (.agg #[.bool true, .slice ao nR cap, .bool D2]) ∧ SlS w' (.slice ao nR cap) R ∧ Gr [] W w' from fun ao c ao' c' W q1 q2 => by
        rw [HN.out.2.2.1]
        rw [hnk] at q1 ⊢
        exact join_rel true true D2 Rk [x] R hR1 ao ao' c c' W q1 q2 (by omega) (by simp))
      have i0 : (0 : Int) < (nR : Int) := by omega
      have i1 : decide ((0 : Int) < (nR : Int)) = true := decide_eq_true i0
      have i2 : decide (0 < nR) = true := decide_eq_true (by omega)
      have i3 : (!decide (0 < nR)) = false := by rw [i2]; rfl
      clear hR1 hnk hnn
      go_wp2_with (first
        | (go_at_call 14; (with_reducible refine (HLA.out _ HC3.out).mono ?_); rintro e w7 ⟨ao7, cap7, rfl, hk7, g7⟩; have g7a := g7.alloc (Obj.cells #[.bool true, .slice ao7 nk cap7, .bool true] 24); have HB7 := Holds.new w7 #[.bool true, .slice ao7 nk cap7, .bool true] 24; have hk7a := hk7.gr0 ((Gr.refl [] w7).alloc (Obj.cells #[.bool true, .slice ao7 nk cap7, .bool true] 24)); have H3g := H3f.gr0 g7a; have HWg := HWf.out.gr0 g7a; have HC3g := HC3.out.gr0 g7a; have HGg := HGf.out.next0 g7a; have v0 := H3g.cell 0; have v1 := H3g.cell 1; have v2 := H3g.cell 2; have u0 := HWg.z.cell 0; have u1 := HWg.z.cell 1; have u2 := HWg.z.cell 2)
        | (go_at_call 10; (with_reducible refine (HS1.out _ HC3g HWg.s).mono ?_); rintro e w8 ⟨rfl, g8⟩; have H3h := H3g.gr0 g8; have HB8 := HB7.gr0 g8; have HGh := HGg.next0 g8; have HC3h := HC3g.gr0 g8; have hk8 := hk7a.gr0 g8; have p0 := H3h.cell 0; have p1 := H3h.cell 1; have p2 := H3h.cell 2; have o0 := HB8.cell 0; have o1 := HB8.cell 1; have o2 := HB8.cell 2; have ga := (Gr.refl [] w8).alloc (Obj.cells #[.string (bsL x)] 9); have pp2 := (H3h.gr0 ga).cell 2; have oo := sl_one w8 x; have hk9 := hk8.gr0 ga)
        | (go_at_call 13; (with_reducible refine (HJ2.out _ _ _ _ _ hk9 oo).mono ?_); rintro e w9 ⟨ao9, cap9, rfl, hkA, g9⟩; have g9a := (ga.next0 g9).alloc (Obj.cells #[.bool true, .slice ao9 nR cap9, .bool D2] 24); have HB9 := Holds.new w9 #[.bool true, .slice ao9 nR cap9, .bool D2] 24; have hkB := hkA.gr0 ((Gr.refl [] w9).alloc (Obj.cells #[.bool true, .slice ao9 nR cap9, .bool D2] 24)); have H3i := H3h.gr0 g9a; have HBi := HB8.gr0 g9a; have HC3i := HC3h.gr0 g9a; have HGi := HGh.next0 g9a; have j0 := H3i.cell 0; have j1 := H3i.cell 1; have j2 := H3i.cell 2; have k0 := HBi.cell 0; have k1 := HBi.cell 1; have k2 := HBi.cell 2; have l0 := HB9.cell 0; have l1 := HB9.cell 1; have l2 := HB9.cell 2)
        | (go_at_call 10; (with_reducible refine (HS2.out _ _ _ hkB HC3i).mono ?_); rintro e wA ⟨rfl, gA⟩))
      go_ret
      exact ⟨rfl, (HGi.next0 gA).below0⟩
  · have HWt := Lib.hid (want_set (A := A1) (D := D2) g6 hown7 z6 (Nat.le_refl _))
    clear x0 x1 x2 x3 y0 y1 y2 f0 f1 f2 z6 z5
    have hba := hb1
    generalize hWe : (((w6.setCell ⟨wa.heap.size, 0, none⟩ (.bool A1)).setCell ⟨wa.heap.size, 1, none⟩ (.slice ao6 (n1 + n2) cap6)).setCell ⟨wa.heap.size, 2, none⟩ (.bool D2)) = We at HWt ⊢
    generalize hbt : wa.heap.size = bt at HWt ⊢
    clear hWe hbt
    clear hown5 hown6 hown7 hgrow5 hgrow6 g5 g6 s5 s6
    have H2e := HH.out.2.1.gr0 HWt.out.g
    have d0 := H2e.cell 0
    have d1 := H2e.cell 1
    have d2 := H2e.cell 2
    have t0 := HWt.out.z.cell 0
    have t1 := HWt.out.z.cell 1
    have t2 := HWt.out.z.cell 2
    have tf0 := HWt.out.z.frozen 0
    have tf1 := HWt.out.z.frozen 1
    have tf2 := HWt.out.z.frozen 2
    have HWf : Hid (Want wa (((We.setCell ⟨bt, 0, none⟩ (.bool true)).setCell ⟨bt, 1, none⟩ (.slice ao2 n2 cap2)).setCell ⟨bt, 2, none⟩ (.bool D2)) bt true D2 (.slice ao2 n2 cap2) (K2)) := Lib.hid (want_again HWt.out HKK.out.2.1)
    have H3f := HH.out.2.2.gr0 HWf.out.g
    have c0 := H3f.cell 0
    have c1 := H3f.cell 1
    have c2 := H3f.cell 2
    have HC3 := Lib.hid (HKK.out.2.2.gr0 HWf.out.g)
    have HGf := Lib.hid (HG.out.next0 HWf.out.g)
    have aa : (true == true) = true := by simp
    have HS1 := Lib.hid (show ∀ W, SlS W (.slice ao3 nR cap3) R → SlS W (.slice ao2 n2 cap2) (K2) → Calls Try.prog 10 #[.agg #[.bool true, .slice ao3 nR cap3, .bool D2], .agg #[.bool true, .slice ao2 n2 cap2, .bool D2]] W fun e w' => e = .returned (.bool true) ∧ Gr [] W w' from fun W q1 q2 => by
      have hl : R.length ≤ 600 := by rw [← HN.out.2.2.1]; exact hlR
      have hx : (K2) = R := HN.out.2.2.2.symm
      rw [hx] at q2
      have hw := q2.some.1
      rw [HN.out.2.2.1] at q1 ⊢
      rw [hw] at q2 ⊢
      have q := same_at true D2 true D2 R R ao3 ao2 cap3 cap2 W q1 q2 (by omega) (by omega)
      rw [eqW_self] at q
      exact q)
    have HS2 := Lib.hid (show ∀ ao c W, SlS W (.slice ao nR c) R → SlS W (.slice ao3 nR cap3) R → Calls Try.prog 10 #[.agg #[.bool true, .slice ao nR c, .bool D2], .agg #[.bool true, .slice ao3 nR cap3, .bool D2]] W fun e w' => e = .returned (.bool true) ∧ Gr [] W w' from fun ao c W q1 q2 => by
      have hl : R.length ≤ 600 := by rw [← HN.out.2.2.1]; exact hlR
      rw [HN.out.2.2.1] at q1 q2 ⊢
      have q := same_at true D2 true D2 R R ao ao3 c cap3 W q1 q2 (by omega) (by omega)
      rw [eqW_self] at q
      exact q)
    have hl0 := bsL_list []
    rcases List.eq_nil_or_concat R with hR0 | ⟨Rk, x, hR1⟩
    · have hn0 : nR = 0 := by rw [HN.out.2.2.1, hR0]; rfl
      have HLA := Lib.hid (show ∀ W, Calls Try.prog 14 #[.agg #[.bool true, .slice ao3 nR cap3, .bool D2]] W fun e w' => e = .returned (.tuple #[.agg #[.bool false, .slice none 0 0, .bool false], .string (bsL []), .bool false]) ∧ Gr [] W w' from fun W => by rw [hn0]; exact last_none true D2 ao3 cap3 W)
      have HS0 := Lib.hid (show ∀ W, Calls Try.prog 10 #[.agg #[.bool false, .slice none 0 0, .bool false], .agg #[.bool false, .slice none 0 0, .bool false]] W fun e w' => e = .returned (.bool true) ∧ Gr [] W w' from fun W => by
        have q := same_at false false false false [] [] none none 0 0 W (SlS.nil W) (SlS.nil W) (by simp) (by simp)
        rw [eqW_self] at q
        exact q)
      have i0 : ¬ ((0 : Int) < (nR : Int)) := by omega
      have i1 : decide ((0 : Int) < (nR : Int)) = false := decide_eq_false i0
      clear hn0 hR0
      go_wp2_with (first
        | (go_at_call 14; (with_reducible refine (HLA.out _).mono ?_); rintro e w7 ⟨rfl, g7⟩; have g7a := g7.alloc (Obj.cells #[.bool false, .slice none 0 0, .bool false] 24); have HB7 := Holds.new w7 #[.bool false, .slice none 0 0, .bool false] 24; have H3g := H3f.gr0 g7a; have HWg := HWf.out.gr0 g7a; have HC3g := HC3.out.gr0 g7a; have HGg := HGf.out.next0 g7a; have v0 := H3g.cell 0; have v1 := H3g.cell 1; have v2 := H3g.cell 2; have u0 := HWg.z.cell 0; have u1 := HWg.z.cell 1; have u2 := HWg.z.cell 2)
        | (go_at_call 10; (with_reducible refine (HS1.out _ HC3g HWg.s).mono ?_); rintro e w8 ⟨rfl, g8⟩; have H3h := H3g.gr0 g8; have HB8 := HB7.gr0 g8; have HGh := HGg.next0 g8; have p0 := H3h.cell 0; have p1 := H3h.cell 1; have p2 := H3h.cell 2; have o0 := HB8.cell 0; have o1 := HB8.cell 1; have o2 := HB8.cell 2)
        | (go_at_call 10; (with_reducible refine (HS0.out _).mono ?_); rintro e w9 ⟨rfl, g9⟩))
      go_ret
      exact ⟨rfl, (HGh.next0 g9).below0⟩
    · rw [List.concat_eq_append] at hR1
      obtain ⟨nk, hnk⟩ : ∃ nk, nk = Rk.length := ⟨_, rfl⟩
      have hnn : nR = nk + 1 := by rw [HN.out.2.2.1, hR1, hnk]; simp
      have HLA := Lib.hid (show ∀ W, SlS W (.slice ao3 nR cap3) R → Calls Try.prog 14 #[.agg #[.bool true, .slice ao3 nR cap3, .bool D2]] W fun e w' => ∃ ao' cap', e = .returned (.tuple #[.agg #[.bool true, .slice ao' nk cap', .bool true], .string (bsL x), .bool true]) ∧ SlS w' (.slice ao' nk cap') Rk ∧ Gr [] W w' from fun W q1 => by
        rw [hR1] at q1
        rw [hnk]
        exact last_some true D2 Rk x nR (by rw [HN.out.2.2.1, hR1]) ao3 cap3 W q1 (by omega))
      have HJ2 := Lib.hid (show ∀ ao c ao' c' W, SlS W (.slice ao nk c) Rk → SlS W (.slice ao' 1 c') [x] → Calls Try.prog 13 #[.agg #[.bool true, .slice ao nk c, .bool true], .agg #[.bool false, .slice ao' 1 c', .bool D2]] W fun e w' => ∃ ao cap, e = .returned (.agg #[.bool true, .slice ao nR cap, .bool D2]) ∧ SlS w' (.slice ao nR cap) R ∧ Gr [] W w' from fun ao c ao' c' W q1 q2 => by
        rw [HN.out.2.2.1]
        rw [hnk] at q1 ⊢
        exact join_rel true true D2 Rk [x] R hR1 ao ao' c c' W q1 q2 (by omega) (by simp))
      have i0 : (0 : Int) < (nR : Int) := by omega
      have i1 : decide ((0 : Int) < (nR : Int)) = true := decide_eq_true i0
      have i2 : decide (0 < nR) = true := decide_eq_true (by omega)
      have i3 : (!decide (0 < nR)) = false := by rw [i2]; rfl
      clear hR1 hnk hnn
      go_wp2_with (first
        | (go_at_call 14; (with_reducible refine (HLA.out _ HC3.out).mono ?_); rintro e w7 ⟨ao7, cap7, rfl, hk7, g7⟩; have g7a := g7.alloc (Obj.cells #[.bool true, .slice ao7 nk cap7, .bool true] 24); have HB7 := Holds.new w7 #[.bool true, .slice ao7 nk cap7, .bool true] 24; have hk7a := hk7.gr0 ((Gr.refl [] w7).alloc (Obj.cells #[.bool true, .slice ao7 nk cap7, .bool true] 24)); have H3g := H3f.gr0 g7a; have HWg := HWf.out.gr0 g7a; have HC3g := HC3.out.gr0 g7a; have HGg := HGf.out.next0 g7a; have v0 := H3g.cell 0; have v1 := H3g.cell 1; have v2 := H3g.cell 2; have u0 := HWg.z.cell 0; have u1 := HWg.z.cell 1; have u2 := HWg.z.cell 2)
        | (go_at_call 10; (with_reducible refine (HS1.out _ HC3g HWg.s).mono ?_); rintro e w8 ⟨rfl, g8⟩; have H3h := H3g.gr0 g8; have HB8 := HB7.gr0 g8; have HGh := HGg.next0 g8; have HC3h := HC3g.gr0 g8; have hk8 := hk7a.gr0 g8; have p0 := H3h.cell 0; have p1 := H3h.cell 1; have p2 := H3h.cell 2; have o0 := HB8.cell 0; have o1 := HB8.cell 1; have o2 := HB8.cell 2; have ga := (Gr.refl [] w8).alloc (Obj.cells #[.string (bsL x)] 9); have pp2 := (H3h.gr0 ga).cell 2; have oo := sl_one w8 x; have hk9 := hk8.gr0 ga)
        | (go_at_call 13; (with_reducible refine (HJ2.out _ _ _ _ _ hk9 oo).mono ?_); rintro e w9 ⟨ao9, cap9, rfl, hkA, g9⟩; have g9a := (ga.next0 g9).alloc (Obj.cells #[.bool true, .slice ao9 nR cap9, .bool D2] 24); have HB9 := Holds.new w9 #[.bool true, .slice ao9 nR cap9, .bool D2] 24; have hkB := hkA.gr0 ((Gr.refl [] w9).alloc (Obj.cells #[.bool true, .slice ao9 nR cap9, .bool D2] 24)); have H3i := H3h.gr0 g9a; have HBi := HB8.gr0 g9a; have HC3i := HC3h.gr0 g9a; have HGi := HGh.next0 g9a; have j0 := H3i.cell 0; have j1 := H3i.cell 1; have j2 := H3i.cell 2; have k0 := HBi.cell 0; have k1 := HBi.cell 1; have k2 := HBi.cell 2; have l0 := HB9.cell 0; have l1 := HB9.cell 1; have l2 := HB9.cell 2)
        | (go_at_call 10; (with_reducible refine (HS2.out _ _ _ hkB HC3i).mono ?_); rintro e wA ⟨rfl, gA⟩))
      go_ret
      exact ⟨rfl, (HGi.next0 gA).below0⟩
theorem walk_PathJoins (S1 S2 : ByteArray) (hs1 : S1.size ≤ maxLen) (_ : S1.size ≤ reachBytes) (hs2 : S2.size ≤ maxLen) (_ : S2.size ≤ reachBytes) (w : World) : Calls Try.prog 5 #[.string S1, .string S2] w fun e w' => e = .returned (.bool true) ∧ Below w.heap.size w w' := by
  unfold maxLen at hs1 hs2
  obtain ⟨m1, hm1⟩ : ∃ m : Nat, m = min S1.size 200 := ⟨_, rfl⟩
  obtain ⟨m2, hm2⟩ : ∃ m : Nat, m = min S2.size 200 := ⟨_, rfl⟩
  obtain ⟨T1, hT1, _⟩ := cut_front S1 200 m1 hm1
  obtain ⟨T2, hT2, _⟩ := cut_front S2 200 m2 hm2
  by_cases hE : errP T1 = 0 ∧ errP T2 = 0
  · obtain ⟨h1, h2⟩ := hE
    have l1 := (way_len T1).1
    have l2 := (way_len T2).1
    have p1 := parse_u T1
    have p2 := parse_u T2
    unfold ParU at p1 p2
    rw [h1] at p1
    rw [h2] at p2
    cases hA2 : wayA T2 with
    | false =>
      rw [hA2] at p2
      exact joins_rel S1 S2 T1 T2 (wayL T1) (wayL T2) _ (wayA T1) (wayD T1) (wayD T2) _ _ _ m1 m2 hm1 hm2 hT1 hT2 hs1 hs2 p1 p2 rfl rfl rfl l1 l2 rfl
    | true =>
      rw [hA2] at p2
      exact joins_abs S1 S2 T1 T2 (wayL T1) (wayL T2) _ (wayA T1) (wayD T1) (wayD T2) _ _ _ m1 m2 hm1 hm2 hT1 hT2 hs1 hs2 p1 p2 rfl rfl rfl l1 l2 rfl
  · have hmn1 := minAB Try.prog (S1.size : Int) 200 m1 (by omega)
    have hmn2 := minAB Try.prog (S2.size : Int) 200 m2 (by omega)
    have hmm1 : m1 ≤ S1.size := by omega
    have hmm2 : m2 ≤ S2.size := by omega
    have HP := Lib.hid (fun s W => parse_u s W)
    have HW := Lib.hid wakes18_any
    obtain ⟨E1, hE1⟩ : ∃ E, E = errP T1 := ⟨_, rfl⟩
    obtain ⟨E2, hE2⟩ : ∃ E, E = errP T2 := ⟨_, rfl⟩
    rw [← hE1, ← hE2] at hE
    have HE := Lib.hid (And.intro hE1 hE2)
    clear hE1 hE2 hm1 hm2
    have G := Gr.refl [] w
    by_cases h1 : E1 = 0
    · have e1 : (E1 == 0) = true := by simp [h1]
      have e2 : (E1 != 0) = false := by simp [h1]
      have e3 : (E2 == 0) = false := by simpa using fun q => hE ⟨h1, q⟩
      have e4 : (E2 != 0) = true := by simpa using fun q => hE ⟨h1, q⟩
      clear h1 hE
      go_enter Try.func5, Try.ntmps5
      go_wp2_with (first
        | (go_at_call 7; (with_reducible refine (HP.out T1 _).mono ?_); rintro e w1 ⟨ao1, cap1, rfl, hk1, g1⟩; rw [← HE.out.1]; have G := (G.next0 g1).alloc (Obj.cells #[.bool (wayA T1), .slice ao1 (wayL T1).length cap1, .bool (wayD T1)] 24))
        | (go_at_call 7; (with_reducible refine (HP.out T2 _).mono ?_); rintro e w2 ⟨ao2, cap2, rfl, hk2, g2⟩; rw [← HE.out.2]; have G := (G.next0 g2).alloc (Obj.cells #[.bool (wayA T2), .slice ao2 (wayL T2).length cap2, .bool (wayD T2)] 24))
        | (go_at_call 9; refine (HW.out _).mono ?_; rintro e w3 ⟨rfl, g3⟩; have G := G.next0 g3))
      go_ret
      exact ⟨rfl, G.below0⟩
    · have e1 : (E1 == 0) = false := by simpa using h1
      have e2 : (E1 != 0) = true := by simpa using h1
      clear hE h1
      go_enter Try.func5, Try.ntmps5
      go_wp2_with (first
        | (go_at_call 7; (with_reducible refine (HP.out T1 _).mono ?_); rintro e w1 ⟨ao1, cap1, rfl, hk1, g1⟩; rw [← HE.out.1]; have G := (G.next0 g1).alloc (Obj.cells #[.bool (wayA T1), .slice ao1 (wayL T1).length cap1, .bool (wayD T1)] 24))
        | (go_at_call 7; (with_reducible refine (HP.out T2 _).mono ?_); rintro e w2 ⟨ao2, cap2, rfl, hk2, g2⟩; rw [← HE.out.2]; have G := (G.next0 g2).alloc (Obj.cells #[.bool (wayA T2), .slice ao2 (wayL T2).length cap2, .bool (wayD T2)] 24))
        | (go_at_call 9; refine (HW.out _).mono ?_; rintro e w3 ⟨rfl, g3⟩; have G := G.next0 g3))
      go_ret
      exact ⟨rfl, G.below0⟩

end Go.Proofs.Ytnmenihahgggmaa
