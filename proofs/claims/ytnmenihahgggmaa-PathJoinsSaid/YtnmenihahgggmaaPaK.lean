/-
  Layer 18: Last.
-/
import Derived.Test.YtnmenihahgggmaaPaJ
namespace Go.Proofs.Ytnmenihahgggmaa
open Go.RowKit Go.Shelf

theorem cell_three {w : World} {b k o : Nat} {u v0 v1 v2 : Value} (hc : w.cell? ⟨k, o, none⟩ = some u) (h : k ≠ b) : (((w.setCell ⟨b, 0, none⟩ v0).setCell ⟨b, 1, none⟩ v1).setCell ⟨b, 2, none⟩ v2).cell? ⟨k, o, none⟩ = some u := by
  rw [← hc]
  refine World.cell?_of_block (w := w) ?_
  exact (Below.heap_setCell _ ⟨b, 2, none⟩ _ k h).trans ((Below.heap_setCell _ ⟨b, 1, none⟩ _ k h).trans (Below.heap_setCell _ ⟨b, 0, none⟩ _ k h))
set_option maxRecDepth 100000 in
set_option maxHeartbeats 8000000 in
theorem last_none (a d : Bool) (ao : Option Addr) (cap : Nat) (w : World) :
    Calls Try.prog 14 #[.agg #[.bool a, .slice ao 0 cap, .bool d]] w fun e w' => e = .returned (.tuple #[.agg #[.bool false, .slice none 0 0, .bool false], .string (bsL []), .bool false]) ∧ Gr [] w w' := by
  have X1 := (Holds.new w #[.bool a, .slice ao 0 cap, .bool d] 24).alloc (Obj.cells #[.bool false, .slice none 0 0, .bool false] 24)
  have X2 := Holds.new (w.alloc (Obj.cells #[.bool a, .slice ao 0 cap, .bool d] 24)) #[.bool false, .slice none 0 0, .bool false] 24
  rw [World.size_alloc] at X2
  have HG := Lib.hid (((Gr.refl [] w).alloc (Obj.cells #[.bool a, .slice ao 0 cap, .bool d] 24)).alloc (Obj.cells #[.bool false, .slice none 0 0, .bool false] 24))
  have k0 := X1.cell 1
  have r0 := X2.cell 0
  have r1 := X2.cell 1
  have r2 := X2.cell 2
  go_enter Try.func14, Try.ntmps14
  go_wp2_with fail
  exact bodyPost_ret (v := .tuple #[.agg #[.bool false, .slice none 0 0, .bool false], .string (bsL []), .bool false]) (by simp [results, Try.results14, go_sem, r0, r1, r2]; rfl) rfl ⟨rfl, HG.out⟩

set_option maxRecDepth 100000 in
set_option maxHeartbeats 8000000 in
theorem last_some (a d : Bool) (K : List (List UInt8)) (x : List UInt8) (n : Nat) (hn : n = (K ++ [x]).length) (ao : Option Addr) (cap : Nat) (w : World) (h : SlS w (.slice ao n cap) (K ++ [x])) (hl : K.length ≤ 70000) :
    Calls Try.prog 14 #[.agg #[.bool a, .slice ao n cap, .bool d]] w fun e w' => ∃ ao' cap', e = .returned (.tuple #[.agg #[.bool a, .slice ao' K.length cap', .bool true], .string (bsL x), .bool true]) ∧ SlS w' (.slice ao' K.length cap') K ∧ Gr [] w w' := by
  obtain ⟨kb, o, rfl, hkb⟩ := h.addr (by simp)
  obtain ⟨m, hm⟩ : ∃ m, m = K.length := ⟨_, rfl⟩
  have hnm : n = m + 1 := by rw [hn, hm]; simp
  have hcx := (h.some.2.1.cell (show (K ++ [x])[m]? = some x by rw [hm]; simp)).1
  have hcap := h.some.2.2.1
  have hcap9 := h.some.2.2.2.1
  unfold maxLen at hcap9
  rw [← hm] at hl ⊢
  have u1 : IntKind.i64.wrap ((n : Int) - 1) = (m : Int) := by rw [IntWalk.i64_in _ (by omega)]; omega
  have i0 : ¬ ((m : Int) < 0) := by omega
  have i1 : (m : Int) < (n : Int) := by omega
  have i2 : (m : Int) ≤ (cap : Int) := by omega
  have X1 := (Holds.new w #[.bool a, .slice (some ⟨kb, o, none⟩) n cap, .bool d] 24).alloc (Obj.cells #[.bool false, .slice none 0 0, .bool false] 24)
  have X2 := Holds.new (w.alloc (Obj.cells #[.bool a, .slice (some ⟨kb, o, none⟩) n cap, .bool d] 24)) #[.bool false, .slice none 0 0, .bool false] 24
  rw [World.size_alloc] at X2
  have HG := Lib.hid (((Gr.refl [] w).alloc (Obj.cells #[.bool a, .slice (some ⟨kb, o, none⟩) n cap, .bool d] 24)).alloc (Obj.cells #[.bool false, .slice none 0 0, .bool false] 24))
  obtain ⟨wa, hwa⟩ : ∃ wa, wa = ((w.alloc (Obj.cells #[.bool a, .slice (some ⟨kb, o, none⟩) n cap, .bool d] 24)).alloc (Obj.cells #[.bool false, .slice none 0 0, .bool false] 24)) := ⟨_, rfl⟩
  have HSK := Lib.hid (show SlS wa.drew (.slice (some ⟨kb, o, none⟩) m cap) K by
    have g : Gr [] w wa.drew := by rw [hwa]; exact HG.out.drew
    have q := (h.gr0 g).some.2.1.take m
    rw [hm, List.take_left] at q
    exact ⟨some ⟨kb, o, none⟩, cap, by rw [hm], q, by omega, by unfold maxLen; omega, fun e => by cases e⟩)
  have HX5 := Lib.hid (show ∀ w5, Gr [] wa w5 → w5.cell? ⟨kb, o + m, none⟩ = some (.string (bsL x)) from fun w5 g => by
    have q := (Gr.cell0 (b := kb) (o := o + m) (show Gr [] w w5 from (show Gr [] w wa by rw [hwa]; exact HG.out).next0 g) hkb).trans hcx
    exact q)
  have HM := Lib.hid hm
  clear hm h hn hnm
  have hc0 : wa.cell? ⟨kb, o + m, none⟩ = some (.string (bsL x)) := HX5.out _ (Gr.refl _ _)
  go_enter Try.func14, Try.ntmps14
  go_wp2_with fail
  rw [← hwa] at X1 X2 HG ⊢
  clear hwa hcx
  have k0 := X1.cell 0
  have k1 := X1.cell 1
  have HB := Lib.hid (show ∀ w5 : World, Gr [] wa w5 → Holds w5 w.heap.size #[.bool a, .slice (some ⟨kb, o, none⟩) n cap, .bool d] 24 from fun w5 g => X1.gr0 g)
  have HT := Lib.hid (show ∀ w5 : World, Gr [] wa w5 → Holds w5 (w.heap.size + 1) #[.bool false, .slice none 0 0, .bool false] 24 from fun w5 g => X2.gr0 g)
  have HLT := Lib.hid X2.lt
  clear X1 X2
  go_region_held3 (fun w' : World => w'.cell? ⟨w.heap.size, 0, none⟩ = some (.bool a) ∧ w'.cell? ⟨w.heap.size, 1, none⟩ = some (.slice (some ⟨kb, o, none⟩) n cap) ∧ w'.cell? ⟨kb, o + m, none⟩ = some (.string (bsL x))) (first | assumption | go_keep) ((first
    | (go_at_call 21; refine (sclone_is _ K m cap _ HSK.out hl).mono ?_; rintro e w5 ⟨ao', cap', rfl, ho, g⟩; have g5 := (Gr.refl [] wa).drew.trans g; have s5 := HB.out _ g5; have s0 := s5.cell 0; have s1 := s5.cell 1; have s2 := HX5.out _ g5; have y0 := cell_three (v0 := .bool a) (v1 := .slice ao' m cap') (v2 := .bool true) s2 (show kb ≠ w.heap.size + 1 by omega); have t5 := HT.out _ g5; have c0 := t5.cell 0; have c1 := t5.cell 1; have c2 := t5.cell 2; have f0 := t5.frozen 0; have f1 := t5.frozen 1; have f2 := t5.frozen 2; have H5 := Lib.hid (And.intro ho g5); clear ho g g5)))
  have HX := ((t5.set 0 (.bool a)).set 1 (.slice ao' m cap')).set 2 (.bool true)
  have r0 := HX.cell 0
  have r1 := HX.cell 1
  have r2 := HX.cell 2
  have hlt := t5.lt
  go_wp2_with fail
  refine bodyPost_ret (v := .tuple #[.agg #[.bool a, .slice ao' m cap', .bool true], .string (bsL x), .bool true]) (by simp [results, Try.results14, go_sem, r0, r1, r2]) rfl ⟨ao', cap', rfl, ?_, ?_⟩
  · exact row_other H5.out.1 ((((Gr.refl [w.heap.size + 1] w5).setCell (p := ⟨w.heap.size + 1, 0, none⟩) (.inl (by simp)) _).setCell (p := ⟨w.heap.size + 1, 1, none⟩) (.inl (by simp)) _).setCell (p := ⟨w.heap.size + 1, 2, none⟩) (.inl (by simp)) _) HLT.out
  · exact (((HG.out.next0 H5.out.2).setCell (p := ⟨w.heap.size + 1, 0, none⟩) (.inr (by show w.heap.size ≤ w.heap.size + 1; omega)) _).setCell (p := ⟨w.heap.size + 1, 1, none⟩) (.inr (by show w.heap.size ≤ w.heap.size + 1; omega)) _).setCell (p := ⟨w.heap.size + 1, 2, none⟩) (.inr (by show w.heap.size ≤ w.heap.size + 1; omega)) _

end Go.Proofs.Ytnmenihahgggmaa
