/-
  Contracts of package desc: Close and Seek.
-/
import Derived.Test.YtpkhfdcokcchdaaDes
namespace Go.Proofs.Ytpkhfdcokcchdaa
open Go.RowKit

theorem Tabs.set3 {W : World} {bt br n : Nat} {D : Nat → Nat → Int × Int × Int} (h : Tabs W bt br n D) {c f : Nat} (hc : c < n) (hf : f < 16) (v : Int × Int × Int) :
    Tabs (((W.setCell ⟨br, c * 48 + f * 3, none⟩ (.int .i64 v.1)).setCell ⟨br, c * 48 + f * 3 + 1, none⟩ (.int .i64 v.2.1)).setCell ⟨br, c * 48 + f * 3 + 2, none⟩ (.int .i64 v.2.2)) bt br n (updD D c f v) ∧
      Gr [br] W (((W.setCell ⟨br, c * 48 + f * 3, none⟩ (.int .i64 v.1)).setCell ⟨br, c * 48 + f * 3 + 1, none⟩ (.int .i64 v.2.1)).setCell ⟨br, c * 48 + f * 3 + 2, none⟩ (.int .i64 v.2.2)) := by
  have g : Gr [br] W (((W.setCell ⟨br, c * 48 + f * 3, none⟩ (.int .i64 v.1)).setCell ⟨br, c * 48 + f * 3 + 1, none⟩ (.int .i64 v.2.1)).setCell ⟨br, c * 48 + f * 3 + 2, none⟩ (.int .i64 v.2.2)) :=
    (((Gr.refl _ _).setCell (p := ⟨br, c * 48 + f * 3, none⟩) (.inl (by simp)) _).setCell (p := ⟨br, c * 48 + f * 3 + 1, none⟩) (.inl (by simp)) _).setCell (p := ⟨br, c * 48 + f * 3 + 2, none⟩) (.inl (by simp)) _
  refine ⟨⟨h.head.gr g (by simpa using h.ne), ?_, h.ne, h.lo, h.hi⟩, g⟩
  have r := ((h.row.set (c * 48 + f * 3) (.int .i64 v.1)).set (c * 48 + f * 3 + 1) (.int .i64 v.2.1)).set (c * 48 + f * 3 + 2) (.int .i64 v.2.2)
  have e : c * 48 + f * 3 = 48 * c + 3 * f := by omega
  rw [← rowF_set3 D n c f v hc hf, ← e]
  exact r
theorem Tabs.set1 {W : World} {bt br n : Nat} {D : Nat → Nat → Int × Int × Int} (h : Tabs W bt br n D) {c f : Nat} (hc : c < n) (hf : f < 16) (x : Int) :
    Tabs (W.setCell ⟨br, c * 48 + f * 3 + 2, none⟩ (.int .i64 x)) bt br n (updD D c f ((D c f).1, (D c f).2.1, x)) ∧ Gr [br] W (W.setCell ⟨br, c * 48 + f * 3 + 2, none⟩ (.int .i64 x)) := by
  have g : Gr [br] W (W.setCell ⟨br, c * 48 + f * 3 + 2, none⟩ (.int .i64 x)) := (Gr.refl _ _).setCell (p := ⟨br, c * 48 + f * 3 + 2, none⟩) (.inl (by simp)) _
  refine ⟨⟨h.head.gr g (by simpa using h.ne), ?_, h.ne, h.lo, h.hi⟩, g⟩
  have r := h.row.set (c * 48 + f * 3 + 2) (.int .i64 x)
  have e : c * 48 + f * 3 = 48 * c + 3 * f := by omega
  rw [← rowF_set1 D n c f x hc hf, ← e]
  exact r
theorem Tabs.fr {W : World} {bt br n : Nat} {D : Nat → Nat → Int × Int × Int} (h : Tabs W bt br n D) (i : Nat) : W.frozen? ⟨br, i, none⟩ = false := h.row.frozen i

/-- The world that a call of Get leaves behind, with its answer boxed. -/
theorem boxed {W w1 : World} {bt br n : Nat} {D : Nat → Nat → Int × Int × Int} (h : Tabs W bt br n D) (g : Gr [] W w1) (a b c : Int) (T : TypeId) :
    Tabs (w1.alloc (Obj.cells #[.int .i64 a, .int .i64 b, .int .i64 c] T)) bt br n D ∧ Gr [] W (w1.alloc (Obj.cells #[.int .i64 a, .int .i64 b, .int .i64 c] T)) ∧ Holds (w1.alloc (Obj.cells #[.int .i64 a, .int .i64 b, .int .i64 c] T)) w1.heap.size #[.int .i64 a, .int .i64 b, .int .i64 c] T ∧ w1.heap.size ≠ br ∧ w1.heap.size ≠ bt := by
  have h1 := h.gr0 g
  have l1 := h1.row.lt
  have l2 := h1.head.lt
  exact ⟨h.gr0 (g.alloc _), g.alloc _, Holds.new w1 _ _, by omega, by omega⟩

set_option maxHeartbeats 1000000 in
theorem close_err (t c f : Value) (e : Int) (w : World) (he : e ≠ 0)
    (hg : Calls Try.prog 63 #[t, c, f] w fun r w' => r = .returned (.tuple #[.agg #[.int .i64 0, .int .i64 0, .int .i64 0], .int .i64 e]) ∧ Gr [] w w') :
    Calls Try.prog 67 #[t, c, f] w fun r w' => r = .returned (.tuple #[.int .i64 0, .int .i64 e]) ∧ Gr [] w w' := by
  have H := Lib.hid hg
  clear hg
  have hd : (e == 0) = false := by simpa using he
  go_enter Try.func67, Try.ntmps67
  go_wp2_with fail
  refine H.out.mono ?_
  rintro r w1 ⟨rfl, hg1⟩
  have HG := Lib.hid (hg1.alloc (Obj.cells #[.int .i64 0, .int .i64 0, .int .i64 0] 122))
  clear hg1
  go_wp2_with fail
  go_ret2
  exact ⟨rfl, HG.out⟩
set_option maxRecDepth 20000 in
set_option maxHeartbeats 1000000 in
theorem close_ok (bt br n c f : Nat) (D : Nat → Nat → Int × Int × Int) (w : World) (h : Tabs w bt br n D) (hc : c < n) (hf : f < 16) (hF : (D c f).2.1 ≠ 0) :
    Calls Try.prog 67 #[.pointer (some ⟨bt, 0, none⟩), .int .i64 c, .int .i64 f] w fun e w' => e = .returned (.tuple #[.int .i64 (D c f).1, .int .i64 0]) ∧ Tabs w' bt br n (updD D c f (0, 0, 0)) ∧ Gr [br] w w' := by
  have H := Lib.hid (get_ok bt br n c f D w h hc hf hF)
  have HT := Lib.hid h
  have hn8 := h.hi
  clear h
  go_enter Try.func67, Try.ntmps67
  go_wp2_with fail
  refine H.out.mono ?_
  rintro r w1 ⟨rfl, hg1⟩
  obtain ⟨T1, G1, X1, n1, n2⟩ := boxed HT.out hg1 (D c f).1 (D c f).2.1 (D c f).2.2 122
  have T0 := HT.out.gr0 hg1
  have l1 := T0.row.lt
  have l2 := T0.head.lt
  clear hF H
  obtain ⟨N, hN⟩ : ∃ N, (D c f).1 = N := ⟨_, rfl⟩
  obtain ⟨F, hFe⟩ : ∃ N, (D c f).2.1 = N := ⟨_, rfl⟩
  obtain ⟨A, hA⟩ : ∃ N, (D c f).2.2 = N := ⟨_, rfl⟩
  obtain ⟨k0, k1, k2⟩ := T0.k hc hf
  rw [hN] at k0
  rw [hFe] at k1
  rw [hA] at k2
  rw [hN, hFe, hA] at T1 G1 X1 ⊢
  have HN := Lib.hid hN
  clear hN hFe hA
  have t0 := T0.c0
  have f0 := T0.fr (c * 48 + f * 3)
  have f1 := T0.fr (c * 48 + f * 3 + 1)
  have f2 := T0.fr (c * 48 + f * 3 + 2)
  have m1 : br ≠ w1.heap.size := fun e => n1 e.symm
  have m2 : bt ≠ w1.heap.size := fun e => n2 e.symm
  have RR := Lib.hid (T0.set3 hc hf (0, 0, 0))
  have HG := Lib.hid hg1
  clear T1 X1 T0 G1 hg1
  go_wp2_with fail
  go_ret2
  exact ⟨by rw [HN.out] <;> rfl, RR.out.1.gr0 ((Gr.refl _ _).alloc _), (HG.out.of0.trans RR.out.2).alloc _⟩

set_option maxHeartbeats 1000000 in
theorem seek_err (t c f x : Value) (e : Int) (w : World) (he : e ≠ 0)
    (hg : Calls Try.prog 63 #[t, c, f] w fun r w' => r = .returned (.tuple #[.agg #[.int .i64 0, .int .i64 0, .int .i64 0], .int .i64 e]) ∧ Gr [] w w') :
    Calls Try.prog 65 #[t, c, f, x] w fun r w' => r = .returned (.int .i64 e) ∧ Gr [] w w' := by
  have H := Lib.hid hg
  clear hg
  have hd : (e == 0) = false := by simpa using he
  go_enter Try.func65, Try.ntmps65
  go_wp2_with fail
  refine H.out.mono ?_
  rintro r w1 ⟨rfl, hg1⟩
  have HG := Lib.hid (hg1.alloc (Obj.cells #[.int .i64 0, .int .i64 0, .int .i64 0] 122))
  clear hg1
  go_wp2_with fail
  go_ret
  exact ⟨rfl, HG.out⟩
set_option maxHeartbeats 1000000 in
theorem seek_neg (bt br n c f : Nat) (x : Int) (D : Nat → Nat → Int × Int × Int) (w : World) (h : Tabs w bt br n D) (hc : c < n) (hf : f < 16) (hF : (D c f).2.1 ≠ 0) (hx : x < 0) :
    Calls Try.prog 65 #[.pointer (some ⟨bt, 0, none⟩), .int .i64 c, .int .i64 f, .int .i64 x] w fun e w' => e = .returned (.int .i64 23) ∧ Gr [] w w' := by
  have H := Lib.hid (get_ok bt br n c f D w h hc hf hF)
  clear h
  go_enter Try.func65, Try.ntmps65
  go_wp2_with fail
  refine H.out.mono ?_
  rintro r w1 ⟨rfl, hg1⟩
  generalize D c f = v at *
  have HG := Lib.hid (hg1.alloc (Obj.cells #[.int .i64 v.1, .int .i64 v.2.1, .int .i64 v.2.2] 122))
  clear hg1 hF
  go_wp2_with fail
  go_ret
  exact ⟨rfl, HG.out⟩
set_option maxHeartbeats 1000000 in
theorem seek_ok (bt br n c f : Nat) (x : Int) (D : Nat → Nat → Int × Int × Int) (w : World) (h : Tabs w bt br n D) (hc : c < n) (hf : f < 16) (hF : (D c f).2.1 ≠ 0) (hx : 0 ≤ x) :
    Calls Try.prog 65 #[.pointer (some ⟨bt, 0, none⟩), .int .i64 c, .int .i64 f, .int .i64 x] w fun e w' => e = .returned (.int .i64 0) ∧ Tabs w' bt br n (updD D c f ((D c f).1, (D c f).2.1, x)) ∧ Gr [br] w w' := by
  have H := Lib.hid (get_ok bt br n c f D w h hc hf hF)
  have HT := Lib.hid h
  have hn8 := h.hi
  have hd : decide (x < 0) = false := by simp; omega
  clear h
  go_enter Try.func65, Try.ntmps65
  go_wp2_with fail
  refine H.out.mono ?_
  rintro r w1 ⟨rfl, hg1⟩
  obtain ⟨T1, G1, X1, n1, n2⟩ := boxed HT.out hg1 (D c f).1 (D c f).2.1 (D c f).2.2 122
  have T0 := HT.out.gr0 hg1
  have l1 := T0.row.lt
  have l2 := T0.head.lt
  clear hF H
  have RR := Lib.hid (T0.set1 hc hf x)
  obtain ⟨N, hN⟩ : ∃ N, (D c f).1 = N := ⟨_, rfl⟩
  obtain ⟨F, hFe⟩ : ∃ N, (D c f).2.1 = N := ⟨_, rfl⟩
  obtain ⟨A, hA⟩ : ∃ N, (D c f).2.2 = N := ⟨_, rfl⟩
  obtain ⟨-, -, k2⟩ := T0.k hc hf
  rw [hA] at k2
  rw [hN, hFe, hA] at T1 G1 X1 ⊢
  rw [hN, hFe] at RR
  have HN := Lib.hid (And.intro hN hFe)
  clear hN hFe hA
  have t0 := T0.c0
  have f2 := T0.fr (c * 48 + f * 3 + 2)
  have m1 : br ≠ w1.heap.size := fun e => n1 e.symm
  have m2 : bt ≠ w1.heap.size := fun e => n2 e.symm
  have HG := Lib.hid hg1
  clear T1 X1 T0 G1 hg1
  go_wp2_with fail
  go_ret
  exact ⟨rfl, by rw [HN.out.1, HN.out.2]; exact RR.out.1.gr0 ((Gr.refl _ _).alloc _), (HG.out.of0.trans RR.out.2).alloc _⟩

end Go.Proofs.Ytpkhfdcokcchdaa
