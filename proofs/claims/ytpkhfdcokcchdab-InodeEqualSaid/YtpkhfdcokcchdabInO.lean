/-
  Layer 16: the law's cut.
-/
import Derived.Test.YtpkhfdcokcchdabInN
namespace Go.Proofs.Ytpkhfdcokcchdab
open Go.RowKit

theorem minZ (P : Program) (x y m : Int) (h : m = min x y) (ts : Array TypeId) (t : TypeId) (w : World) : (Builtin.min_ ts t #[.int .i64 x, .int .i64 y]).run P w = .ok (.int .i64 m) w := by
  rw [run_min_int2]
  have : (if y < x then y else x) = m := by split <;> omega
  rw [this]
set_option maxHeartbeats 8000000 in
set_option maxRecDepth 100000 in
theorem ecut16_some (k : Nat) (l s : Int) (bl : List (Int × Int)) (t : ByteArray) (N bk o cV : Nat) (w : World) (hv : Sl2 w (.slice (some ⟨bk, o, none⟩) N cV) bl) (ht : t.size ≤ maxLen) :
    Calls Try.prog 11 #[.agg #[.int .u8 k, .int .i64 l, .int .i64 s, .slice (some ⟨bk, o, none⟩) N cV, .string t]] w fun e w' => e = .returned (.agg #[.int .u8 k, .int .i64 l, .int .i64 s, .slice (some ⟨bk, o, none⟩) (min N 70) cV, .string (t.extract 0 (min t.size 300))]) ∧ Gr [] w w' := by
  unfold maxLen at ht
  obtain ⟨M, hM⟩ : ∃ M, M = min N 70 := ⟨_, rfl⟩
  obtain ⟨m, hm⟩ : ∃ m, m = min t.size 300 := ⟨_, rfl⟩
  have hmn1 := minZ Try.prog (N : Int) 70 (M : Int) (by omega)
  have hmn2 := minZ Try.prog (t.size : Int) 300 (m : Int) (by omega)
  obtain ⟨p1, p2, p3, p4, p5⟩ := sl2_parts hv
  have m1 : M ≤ N := by omega
  have m2 : M ≤ cV := by omega
  have m3 : (M : Int) ≤ (cV : Int) := by omega
  have m4 : m ≤ t.size := by omega
  have m5 : (m : Int) ≤ (t.size : Int) := by omega
  rw [← hM, ← hm]
  have HG := Lib.hid (((Gr.refl [] w).alloc (Obj.cells #[.int .u8 k, .int .i64 l, .int .i64 s, .slice (some ⟨bk, o, none⟩) N cV, .string t] 24)).alloc (Obj.cells #[.int .u8 0, .int .i64 0, .int .i64 0, .slice none 0 0, .string ⟨#[]⟩] 24))
  have HI := Lib.hid ((Holds.new w #[.int .u8 k, .int .i64 l, .int .i64 s, .slice (some ⟨bk, o, none⟩) N cV, .string t] 24).alloc (Obj.cells #[.int .u8 0, .int .i64 0, .int .i64 0, .slice none 0 0, .string ⟨#[]⟩] 24))
  have hx := Holds.new (w.alloc (Obj.cells #[.int .u8 k, .int .i64 l, .int .i64 s, .slice (some ⟨bk, o, none⟩) N cV, .string t] 24)) #[.int .u8 0, .int .i64 0, .int .i64 0, .slice none 0 0, .string ⟨#[]⟩] 24
  rw [World.size_alloc] at hx
  have HX := Lib.hid hx
  clear hx hv hM hm p1 p2 p5
  go_enter Try.func11, Try.ntmps11
  go_wp2_with fail
  generalize (w.alloc (Obj.cells #[.int .u8 k, .int .i64 l, .int .i64 s, .slice (some ⟨bk, o, none⟩) N cV, .string t] 24)).alloc (Obj.cells #[.int .u8 0, .int .i64 0, .int .i64 0, .slice none 0 0, .string ⟨#[]⟩] 24) = w1 at *
  have i0 := HI.out.cell 0
  have i3 := HI.out.cell 3
  have i4 := HI.out.cell 4
  have f3 := HI.out.frozen 3
  have f4 := HI.out.frozen 4
  go_region
  have HI2 := Lib.hid (show Holds (((w1.setCell ⟨w.heap.size, 3, none⟩ (.slice (some ⟨bk, o, none⟩) M cV)).setCell ⟨w.heap.size, 4, none⟩ (.string (t.extract 0 m))).drew) w.heap.size #[.int .u8 k, .int .i64 l, .int .i64 s, .slice (some ⟨bk, o, none⟩) M cV, .string (t.extract 0 m)] 24 from ((HI.out.set 3 _).set 4 _).drew)
  have HX2 := Lib.hid (((HX.out.far (a := ⟨w.heap.size, 3, none⟩) (by simp) (.slice (some ⟨bk, o, none⟩) M cV)).far (a := ⟨w.heap.size, 4, none⟩) (by simp) (.string (t.extract 0 m))).drew)
  have HG2 := Lib.hid (((HG.out.setCell (p := ⟨w.heap.size, 3, none⟩) (.inr (by simp)) (.slice (some ⟨bk, o, none⟩) M cV)).setCell (p := ⟨w.heap.size, 4, none⟩) (.inr (by simp)) (.string (t.extract 0 m))).drew)
  generalize ((w1.setCell ⟨w.heap.size, 3, none⟩ (.slice (some ⟨bk, o, none⟩) M cV)).setCell ⟨w.heap.size, 4, none⟩ (.string (t.extract 0 m))).drew = w2 at *
  clear i0 i3 i4 f3 f4 HI HX HG
  have x0 := HI2.out.cell 0
  have x1 := HI2.out.cell 1
  have x2 := HI2.out.cell 2
  have x3 := HI2.out.cell 3
  have x4 := HI2.out.cell 4
  have r0 := HX2.out.cell 0
  have r1 := HX2.out.cell 1
  have r2 := HX2.out.cell 2
  have r3 := HX2.out.cell 3
  have r4 := HX2.out.cell 4
  have f0 := HX2.out.frozen 0
  have f1 := HX2.out.frozen 1
  have f2 := HX2.out.frozen 2
  have f3 := HX2.out.frozen 3
  have f4 := HX2.out.frozen 4
  go_wp2_with fail
  refine bodyPost_ret (v := .agg #[.int .u8 k, .int .i64 l, .int .i64 s, .slice (some ⟨bk, o, none⟩) M cV, .string (t.extract 0 m)]) (by simp [results, Try.results11, go_sem, *]) rfl ⟨rfl, ?_⟩
  exact ((((HG2.out.setCell (p := ⟨w.heap.size + 1, 0, none⟩) (.inr (by simp)) _).setCell (p := ⟨w.heap.size + 1, 1, none⟩) (.inr (by simp)) _).setCell (p := ⟨w.heap.size + 1, 2, none⟩) (.inr (by simp)) _).setCell (p := ⟨w.heap.size + 1, 3, none⟩) (.inr (by simp)) _).setCell (p := ⟨w.heap.size + 1, 4, none⟩) (.inr (by simp)) _

set_option maxHeartbeats 8000000 in
set_option maxRecDepth 100000 in
theorem ecut16_zero (k : Nat) (l s : Int) (t : ByteArray) (ao : Option Addr) (cV : Nat) (w : World) (hO : ao = none → cV = 0) (hc : cV ≤ maxLen) (ht : t.size ≤ maxLen) :
    Calls Try.prog 11 #[.agg #[.int .u8 k, .int .i64 l, .int .i64 s, .slice ao 0 cV, .string t]] w fun e w' => e = .returned (.agg #[.int .u8 k, .int .i64 l, .int .i64 s, .slice ao 0 cV, .string (t.extract 0 (min t.size 300))]) ∧ Gr [] w w' := by
  unfold maxLen at ht hc
  obtain ⟨m, hm⟩ : ∃ m, m = min t.size 300 := ⟨_, rfl⟩
  have hmn1 := minZ Try.prog 0 70 0 (by omega)
  have hmn2 := minZ Try.prog (t.size : Int) 300 (m : Int) (by omega)
  have m4 : m ≤ t.size := by omega
  have m5 : (m : Int) ≤ (t.size : Int) := by omega
  rw [← hm]
  have HG := Lib.hid (((Gr.refl [] w).alloc (Obj.cells #[.int .u8 k, .int .i64 l, .int .i64 s, .slice ao 0 cV, .string t] 24)).alloc (Obj.cells #[.int .u8 0, .int .i64 0, .int .i64 0, .slice none 0 0, .string ⟨#[]⟩] 24))
  have HI := Lib.hid ((Holds.new w #[.int .u8 k, .int .i64 l, .int .i64 s, .slice ao 0 cV, .string t] 24).alloc (Obj.cells #[.int .u8 0, .int .i64 0, .int .i64 0, .slice none 0 0, .string ⟨#[]⟩] 24))
  have hx := Holds.new (w.alloc (Obj.cells #[.int .u8 k, .int .i64 l, .int .i64 s, .slice ao 0 cV, .string t] 24)) #[.int .u8 0, .int .i64 0, .int .i64 0, .slice none 0 0, .string ⟨#[]⟩] 24
  rw [World.size_alloc] at hx
  have HX := Lib.hid hx
  clear hx hm
  go_enter Try.func11, Try.ntmps11
  go_wp2_with fail
  generalize (w.alloc (Obj.cells #[.int .u8 k, .int .i64 l, .int .i64 s, .slice ao 0 cV, .string t] 24)).alloc (Obj.cells #[.int .u8 0, .int .i64 0, .int .i64 0, .slice none 0 0, .string ⟨#[]⟩] 24) = w1 at *
  have i0 := HI.out.cell 0
  have i3 := HI.out.cell 3
  have i4 := HI.out.cell 4
  have f3 := HI.out.frozen 3
  have f4 := HI.out.frozen 4
  go_region
  have HI2 := Lib.hid (show Holds (((w1.setCell ⟨w.heap.size, 3, none⟩ (.slice ao 0 cV)).setCell ⟨w.heap.size, 4, none⟩ (.string (t.extract 0 m))).drew) w.heap.size #[.int .u8 k, .int .i64 l, .int .i64 s, .slice ao 0 cV, .string (t.extract 0 m)] 24 from ((HI.out.set 3 _).set 4 _).drew)
  have HX2 := Lib.hid (((HX.out.far (a := ⟨w.heap.size, 3, none⟩) (by simp) (.slice ao 0 cV)).far (a := ⟨w.heap.size, 4, none⟩) (by simp) (.string (t.extract 0 m))).drew)
  have HG2 := Lib.hid (((HG.out.setCell (p := ⟨w.heap.size, 3, none⟩) (.inr (by simp)) (.slice ao 0 cV)).setCell (p := ⟨w.heap.size, 4, none⟩) (.inr (by simp)) (.string (t.extract 0 m))).drew)
  generalize ((w1.setCell ⟨w.heap.size, 3, none⟩ (.slice ao 0 cV)).setCell ⟨w.heap.size, 4, none⟩ (.string (t.extract 0 m))).drew = w2 at *
  clear i0 i3 i4 f3 f4 HI HX HG
  have x0 := HI2.out.cell 0
  have x1 := HI2.out.cell 1
  have x2 := HI2.out.cell 2
  have x3 := HI2.out.cell 3
  have x4 := HI2.out.cell 4
  have r0 := HX2.out.cell 0
  have r1 := HX2.out.cell 1
  have r2 := HX2.out.cell 2
  have r3 := HX2.out.cell 3
  have r4 := HX2.out.cell 4
  have f0 := HX2.out.frozen 0
  have f1 := HX2.out.frozen 1
  have f2 := HX2.out.frozen 2
  have f3 := HX2.out.frozen 3
  have f4 := HX2.out.frozen 4
  go_wp2_with fail
  refine bodyPost_ret (v := .agg #[.int .u8 k, .int .i64 l, .int .i64 s, .slice ao 0 cV, .string (t.extract 0 m)]) (by simp [results, Try.results11, go_sem, *]) rfl ⟨rfl, ?_⟩
  exact ((((HG2.out.setCell (p := ⟨w.heap.size + 1, 0, none⟩) (.inr (by simp)) _).setCell (p := ⟨w.heap.size + 1, 1, none⟩) (.inr (by simp)) _).setCell (p := ⟨w.heap.size + 1, 2, none⟩) (.inr (by simp)) _).setCell (p := ⟨w.heap.size + 1, 3, none⟩) (.inr (by simp)) _).setCell (p := ⟨w.heap.size + 1, 4, none⟩) (.inr (by simp)) _

theorem ecut16_any (k : Nat) (l s : Int) (bl : List (Int × Int)) (t : ByteArray) (N : Nat) (ao : Option Addr) (cV : Nat) (w : World) (hv : Sl2 w (.slice ao N cV) bl) (ht : t.size ≤ maxLen) :
    Calls Try.prog 11 #[.agg #[.int .u8 k, .int .i64 l, .int .i64 s, .slice ao N cV, .string t]] w fun e w' => e = .returned (.agg #[.int .u8 k, .int .i64 l, .int .i64 s, .slice ao (min N 70) cV, .string (t.extract 0 (min t.size 300))]) ∧ Gr [] w w' := by
  obtain ⟨p1, p2, p3, p4, p5⟩ := sl2_parts hv
  by_cases h0 : N = 0
  · subst h0
    exact ecut16_zero k l s t ao cV w p5 p4 ht
  · obtain ⟨bk, o, hao, _⟩ := p2 0 _ (List.getElem?_eq_getElem (show 0 < bl.length by omega))
    subst hao
    exact ecut16_some k l s bl t N bk o cV w hv ht
theorem sl2_take {w : World} {ao : Option Addr} {N cV : Nat} {bl : List (Int × Int)} (hv : Sl2 w (.slice ao N cV) bl) (m : Nat) : Sl2 w (.slice ao (min N m) cV) (bl.take m) := by
  obtain ⟨p1, p2, p3, p4, p5⟩ := sl2_parts hv
  have hl : (bl.take m).length = min N m := by rw [List.length_take, p1]; omega
  exact ⟨ao, cV, by rw [hl], p2.take m, by omega, p4, p5⟩

end Go.Proofs.Ytpkhfdcokcchdab
