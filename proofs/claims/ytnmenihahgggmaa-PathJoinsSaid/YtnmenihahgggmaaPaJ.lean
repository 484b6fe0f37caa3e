/-
  Layer 18: Join and Last.
-/
import Derived.Test.YtnmenihahgggmaaPaC
import Derived.Deep.RegionHeld3
import Derived.RegionTactic
namespace Go.Proofs.Ytnmenihahgggmaa
open Go.RowKit Go.Shelf

theorem own_slS' {w : World} {base n : Nat} {e : TypeId} {ao : Option Addr} {cap : Nat} {L : List (List UInt8)} (h : w.ownsRow base e 1 (.slice ao n cap) n (cellsS L)) : SlS w (.slice ao n cap) L := own_slS h
theorem sclone_is (ao : Option Addr) (L : List (List UInt8)) (n cap : Nat) (w : World) (h : SlS w (.slice ao n cap) L) (hl : n ≤ 70000) :
    Calls Try.prog 21 #[.slice ao n cap] w fun e w' => ∃ ao' cap', e = .returned (.slice ao' n cap') ∧ w'.ownsRow w.heap.size 9 1 (.slice ao' n cap') n (cellsS L) ∧ Gr [] w w' := by
  obtain ⟨rfl, h2, h3, h4, h5⟩ := h.some
  refine (sclone_any ao L cap w h2 hl h3 h5).mono ?_
  rintro e w' ⟨v, rfl, ho, g⟩
  obtain ⟨ao', cap', rfl⟩ := own_form ho
  exact ⟨ao', cap', rfl, ho, g⟩
theorem row_other {w W : World} {base n b : Nat} {ao : Option Addr} {cap : Nat} {L : List (List UInt8)} (h : w.ownsRow base 9 1 (.slice ao n cap) n (cellsS L)) (g : Gr [b] w W) (hb : b < base) : SlS W (.slice ao n cap) L := by
  refine (own_slS' h).grB g (fun k o e => ?_)
  subst e
  have := (h.lt k rfl).1
  omega
/-- What Join answers. -/
def JoinU (A D : Bool) (R : List (List UInt8)) (w : World) (e : Ending) (w' : World) : Prop :=
  ∃ ao cap, e = .returned (.agg #[.bool A, .slice ao R.length cap, .bool D]) ∧ SlS w' (.slice ao R.length cap) R ∧ Gr [] w w'

set_option maxRecDepth 100000 in
set_option maxHeartbeats 8000000 in
theorem join_abs (a d d2 : Bool) (ao1 : Option Addr) (n1 cap1 : Nat) (K2 : List (List UInt8)) (ao2 : Option Addr) (cap2 : Nat) (w : World) (h2 : SlS w (.slice ao2 K2.length cap2) K2) (hl : K2.length ≤ 70000) :
    Calls Try.prog 13 #[.agg #[.bool a, .slice ao1 n1 cap1, .bool d], .agg #[.bool true, .slice ao2 K2.length cap2, .bool d2]] w (JoinU true d2 K2 w) := by
  unfold JoinU
  obtain ⟨n2, hn2⟩ : ∃ n, n = K2.length := ⟨_, rfl⟩
  rw [← hn2] at h2 hl ⊢
  clear hn2
  have X2 := (Holds.new (w.alloc (Obj.cells #[.bool a, .slice ao1 n1 cap1, .bool d] 24)) #[.bool true, .slice ao2 n2 cap2, .bool d2] 24).alloc (Obj.cells #[.bool false, .slice none 0 0, .bool false] 24)
  rw [World.size_alloc] at X2
  have X4 := Holds.new ((w.alloc (Obj.cells #[.bool a, .slice ao1 n1 cap1, .bool d] 24)).alloc (Obj.cells #[.bool true, .slice ao2 n2 cap2, .bool d2] 24)) #[.bool false, .slice none 0 0, .bool false] 24
  rw [World.size_alloc, World.size_alloc] at X4
  have HG := Lib.hid (((Gr.refl [] w).alloc (Obj.cells #[.bool a, .slice ao1 n1 cap1, .bool d] 24)).alloc (Obj.cells #[.bool true, .slice ao2 n2 cap2, .bool d2] 24) |>.alloc (Obj.cells #[.bool false, .slice none 0 0, .bool false] 24))
  obtain ⟨wa, hwa⟩ : ∃ wa, wa = (((w.alloc (Obj.cells #[.bool a, .slice ao1 n1 cap1, .bool d] 24)).alloc (Obj.cells #[.bool true, .slice ao2 n2 cap2, .bool d2] 24)).alloc (Obj.cells #[.bool false, .slice none 0 0, .bool false] 24)) := ⟨_, rfl⟩
  have HS2 := Lib.hid (h2.gr0 HG.out.drew)
  clear h2
  go_enter Try.func13, Try.ntmps13
  go_wp2_with fail
  rw [← hwa] at X2 X4 HG HS2 ⊢
  clear hwa
  have k0 := X2.cell 1
  have k1 := X2.cell 2
  have HB := Lib.hid (show ∀ w5 : World, Gr [] wa w5 → w5.cell? ⟨w.heap.size + 1, 1, none⟩ = some (.slice ao2 n2 cap2) ∧ w5.cell? ⟨w.heap.size + 1, 2, none⟩ = some (.bool d2) from fun w5 g => And.intro ((X2.gr0 g).cell 1) ((X2.gr0 g).cell 2))
  have HT := Lib.hid (show ∀ w5 : World, Gr [] wa w5 → Holds w5 (w.heap.size + 1 + 1) #[.bool false, .slice none 0 0, .bool false] 24 from fun w5 g => X4.gr0 g)
  have HLT := Lib.hid (show w.heap.size + 1 + 1 < wa.drew.heap.size from X4.lt)
  clear X2 X4
  go_region_held3 (fun w' : World => w'.cell? ⟨w.heap.size + 1, 1, none⟩ = some (.slice ao2 n2 cap2) ∧ w'.cell? ⟨w.heap.size + 1, 2, none⟩ = some (.bool d2)) (first | assumption | go_keep) ((first
    | (go_at_call 21; refine (sclone_is ao2 K2 n2 cap2 _ HS2.out hl).mono ?_; rintro e w5 ⟨ao', cap', rfl, ho, g⟩; have g5 := (Gr.refl [] wa).drew.trans g; have s5 := HB.out _ g5; have t5 := HT.out _ g5; have c0 := t5.cell 0; have c1 := t5.cell 1; have c2 := t5.cell 2; have f0 := t5.frozen 0; have f1 := t5.frozen 1; have f2 := t5.frozen 2; have H5 := Lib.hid (And.intro ho g5); clear ho g g5)))
  have HX := ((t5.set 0 (.bool true)).set 1 (.slice ao' n2 cap')).set 2 (.bool d2)
  have r0 := HX.cell 0
  have r1 := HX.cell 1
  have r2 := HX.cell 2
  have hlt := t5.lt
  go_wp2_with fail
  refine bodyPost_ret (v := .agg #[.bool true, .slice ao' n2 cap', .bool d2]) (by simp [results, Try.results13, go_sem, r0, r1, r2]) rfl ⟨ao', cap', rfl, ?_, ?_⟩
  · exact row_other H5.out.1 ((((Gr.refl [w.heap.size + 1 + 1] w5).setCell (p := ⟨w.heap.size + 1 + 1, 0, none⟩) (.inl (by simp)) _).setCell (p := ⟨w.heap.size + 1 + 1, 1, none⟩) (.inl (by simp)) _).setCell (p := ⟨w.heap.size + 1 + 1, 2, none⟩) (.inl (by simp)) _) HLT.out
  · exact (((HG.out.next0 H5.out.2).setCell (p := ⟨w.heap.size + 1 + 1, 0, none⟩) (.inr (by show w.heap.size ≤ w.heap.size + 1 + 1; omega)) _).setCell (p := ⟨w.heap.size + 1 + 1, 1, none⟩) (.inr (by show w.heap.size ≤ w.heap.size + 1 + 1; omega)) _).setCell (p := ⟨w.heap.size + 1 + 1, 2, none⟩) (.inr (by show w.heap.size ≤ w.heap.size + 1 + 1; omega)) _

set_option maxRecDepth 100000 in
set_option maxHeartbeats 8000000 in
theorem join_rel (a d d2 : Bool) (K1 K2 R : List (List UInt8)) (hR : R = K1 ++ K2) (ao1 ao2 : Option Addr) (cap1 cap2 : Nat) (w : World) (h1 : SlS w (.slice ao1 K1.length cap1) K1) (h2 : SlS w (.slice ao2 K2.length cap2) K2) (hl1 : K1.length ≤ 70000) (hl2 : K2.length ≤ 70000) :
    Calls Try.prog 13 #[.agg #[.bool a, .slice ao1 K1.length cap1, .bool d], .agg #[.bool false, .slice ao2 K2.length cap2, .bool d2]] w (JoinU a d2 R w) := by
  unfold JoinU
  obtain ⟨n1, hn1⟩ : ∃ n, n = K1.length := ⟨_, rfl⟩
  obtain ⟨n2, hn2⟩ : ∃ n, n = K2.length := ⟨_, rfl⟩
  obtain ⟨m, hm⟩ : ∃ n, n = R.length := ⟨_, rfl⟩
  have hm1 : m ≤ 1000000 := by rw [hm, hR, List.length_append]; omega
  rw [← hn1] at h1 hl1 ⊢
  rw [← hn2] at h2 hl2 ⊢
  rw [← hm]
  have HM := Lib.hid (And.intro hm hR)
  have X1 := ((Holds.new w #[.bool a, .slice ao1 n1 cap1, .bool d] 24).alloc (Obj.cells #[.bool false, .slice ao2 n2 cap2, .bool d2] 24)).alloc (Obj.cells #[.bool false, .slice none 0 0, .bool false] 24)
  have X2 := (Holds.new (w.alloc (Obj.cells #[.bool a, .slice ao1 n1 cap1, .bool d] 24)) #[.bool false, .slice ao2 n2 cap2, .bool d2] 24).alloc (Obj.cells #[.bool false, .slice none 0 0, .bool false] 24)
  rw [World.size_alloc] at X2
  have X4 := Holds.new ((w.alloc (Obj.cells #[.bool a, .slice ao1 n1 cap1, .bool d] 24)).alloc (Obj.cells #[.bool false, .slice ao2 n2 cap2, .bool d2] 24)) #[.bool false, .slice none 0 0, .bool false] 24
  rw [World.size_alloc, World.size_alloc] at X4
  have HG := Lib.hid (((Gr.refl [] w).alloc (Obj.cells #[.bool a, .slice ao1 n1 cap1, .bool d] 24)).alloc (Obj.cells #[.bool false, .slice ao2 n2 cap2, .bool d2] 24) |>.alloc (Obj.cells #[.bool false, .slice none 0 0, .bool false] 24))
  obtain ⟨wa, hwa⟩ : ∃ wa, wa = (((w.alloc (Obj.cells #[.bool a, .slice ao1 n1 cap1, .bool d] 24)).alloc (Obj.cells #[.bool false, .slice ao2 n2 cap2, .bool d2] 24)).alloc (Obj.cells #[.bool false, .slice none 0 0, .bool false] 24)) := ⟨_, rfl⟩
  have g1 := h1.gr0 HG.out
  have g2 := h2.gr0 HG.out
  have HN12 := Lib.hid (And.intro hn1 hn2)
  clear h1 h2 hm hR hn1 hn2
  go_enter Try.func13, Try.ntmps13
  go_wp2_with fail
  rw [← hwa] at X1 X2 X4 HG g1 g2 ⊢
  clear hwa
  have k0 := X1.cell 0
  have k1 := X1.cell 1
  have k2 := X2.cell 1
  have k3 := X2.cell 2
  have HB := Lib.hid (show ∀ w5 : World, Gr [] wa w5 → w5.cell? ⟨w.heap.size, 0, none⟩ = some (.bool a) ∧ w5.cell? ⟨w.heap.size, 1, none⟩ = some (.slice ao1 n1 cap1) ∧ w5.cell? ⟨w.heap.size + 1, 1, none⟩ = some (.slice ao2 n2 cap2) ∧ w5.cell? ⟨w.heap.size + 1, 2, none⟩ = some (.bool d2) from fun w5 g => ⟨(X1.gr0 g).cell 0, (X1.gr0 g).cell 1, (X2.gr0 g).cell 1, (X2.gr0 g).cell 2⟩)
  have HT := Lib.hid (show ∀ w5 : World, Gr [] wa w5 → Holds w5 (w.heap.size + 1 + 1) #[.bool false, .slice none 0 0, .bool false] 24 from fun w5 g => X4.gr0 g)
  have HLT := Lib.hid X4.lt
  have HY := Lib.hid (show ∀ w5 : World, Gr [] wa w5 → Holds w5 w.heap.size #[.bool a, .slice ao1 n1 cap1, .bool d] 24 from fun w5 g => X1.gr0 g)
  clear X1 X2 X4
  have HCI := Lib.hid (show CatSn [(ao1, cap1, K1), (ao2, cap2, K2)] wa.heap.size ((wa.alloc (Obj.cells #[.slice ao1 n1 cap1, .slice ao2 n2 cap2] 22)).drew) by
    have g := ((Gr.refl [] wa).alloc (Obj.cells #[.slice ao1 n1 cap1, .slice ao2 n2 cap2] 22)).drew
    have X := Holds.new wa #[.slice ao1 n1 cap1, .slice ao2 n2 cap2] 22
    refine ⟨fun i x hx => ?_, X.lt, fun x hx => ?_, fun x hx => ?_⟩
    · match i, hx with
      | 0, hx => simp at hx; subst hx; show _ = some (Value.slice ao1 K1.length cap1); rw [← HN12.out.1]; exact X.cell 0
      | 1, hx => simp at hx; subst hx; show _ = some (Value.slice ao2 K2.length cap2); rw [← HN12.out.2]; exact X.cell 1
      | i + 2, hx => simp at hx
    · simp at hx
      rcases hx with rfl | rfl
      · exact g1.some.2.1.gr0 g
      · exact g2.some.2.1.gr0 g
    · simp at hx
      rcases hx with rfl | rfl
      · exact ⟨by show K1.length ≤ cap1; rw [← HN12.out.1]; exact g1.some.2.2.1, g1.some.2.2.2.2⟩
      · exact ⟨by show K2.length ≤ cap2; rw [← HN12.out.2]; exact g2.some.2.2.1, g2.some.2.2.2.2⟩)
  have HG2 := Lib.hid ((Gr.refl [] wa).alloc (Obj.cells #[.slice ao1 n1 cap1, .slice ao2 n2 cap2] 22))
  have hcat : catS [(ao1, cap1, K1), (ao2, cap2, K2)] = R := by simp [catS, HM.out.2]
  have HC := Lib.hid (show ∀ W cp, W = (wa.alloc (Obj.cells #[.slice ao1 n1 cap1, .slice ao2 n2 cap2] 22)).drew → Calls Try.prog 22 #[.slice (some ⟨wa.heap.size, 0, none⟩) 2 cp] W fun e w' => ∃ ao cap, e = .returned (.slice ao m cap) ∧ w'.ownsRow W.heap.size 9 1 (.slice ao m cap) m (cellsS R) ∧ Gr [] W w' from fun W cp hW => by
    subst hW
    have hm2 := HM.out.1
    have q := sconcat_any [(ao1, cap1, K1), (ao2, cap2, K2)] wa.heap.size cp _ HCI.out (by simp) (by rw [hcat, ← hm2]; exact hm1)
    refine q.mono ?_
    rintro e w' ⟨v, rfl, ho, g⟩
    rw [hcat, ← hm2] at ho
    obtain ⟨ao, cap, rfl⟩ := own_form ho
    exact ⟨ao, cap, rfl, ho, g⟩)
  clear g1 g2 hcat
  go_region_held3 (fun w' : World => w'.cell? ⟨w.heap.size, 0, none⟩ = some (.bool a) ∧ w'.cell? ⟨w.heap.size, 1, none⟩ = some (.slice ao1 n1 cap1) ∧ w'.cell? ⟨w.heap.size + 1, 1, none⟩ = some (.slice ao2 n2 cap2) ∧ w'.cell? ⟨w.heap.size + 1, 2, none⟩ = some (.bool d2)) (first | assumption | go_keep) ((first
    | (go_at_call 22; refine (HC.out _ _ rfl).mono ?_; rintro e w5 ⟨ao', cap', rfl, ho, g⟩; have g5 := HG2.out.drew.trans g; have s5 := HB.out _ g5; have t5 := HT.out _ g5; have c0 := t5.cell 0; have c1 := t5.cell 1; have c2 := t5.cell 2; have f0 := t5.frozen 0; have f1 := t5.frozen 1; have f2 := t5.frozen 2; have y5 := (((HY.out _ g5).far (a := ⟨w.heap.size + 1 + 1, 0, none⟩) (by show w.heap.size ≠ w.heap.size + 1 + 1; omega) (.bool a)).far (a := ⟨w.heap.size + 1 + 1, 1, none⟩) (by show w.heap.size ≠ w.heap.size + 1 + 1; omega) (.slice ao' m cap')).far (a := ⟨w.heap.size + 1 + 1, 2, none⟩) (by show w.heap.size ≠ w.heap.size + 1 + 1; omega) (.bool d2); have y0 : World.cell? _ ⟨w.heap.size, 0, none⟩ = some (.bool a) := y5.cell 0; have y1 : World.cell? _ ⟨w.heap.size, 1, none⟩ = some (.slice ao1 n1 cap1) := y5.cell 1; have H5 := Lib.hid (And.intro ho g5); clear ho g g5 y5)))
  have HX := ((t5.set 0 (.bool a)).set 1 (.slice ao' m cap')).set 2 (.bool d2)
  have r0 := HX.cell 0
  have r1 := HX.cell 1
  have r2 := HX.cell 2
  have hlt := t5.lt
  go_wp2_with fail
  refine bodyPost_ret (v := .agg #[.bool a, .slice ao' m cap', .bool d2]) (by simp [results, Try.results13, go_sem, r0, r1, r2]) rfl ⟨ao', cap', rfl, ?_, ?_⟩
  · exact row_other H5.out.1 ((((Gr.refl [w.heap.size + 1 + 1] w5).setCell (p := ⟨w.heap.size + 1 + 1, 0, none⟩) (.inl (by simp)) _).setCell (p := ⟨w.heap.size + 1 + 1, 1, none⟩) (.inl (by simp)) _).setCell (p := ⟨w.heap.size + 1 + 1, 2, none⟩) (.inl (by simp)) _) (Nat.lt_of_lt_of_le HLT.out HG2.out.drew.size)
  · exact (((HG.out.next0 H5.out.2).setCell (p := ⟨w.heap.size + 1 + 1, 0, none⟩) (.inr (by show w.heap.size ≤ w.heap.size + 1 + 1; omega)) _).setCell (p := ⟨w.heap.size + 1 + 1, 1, none⟩) (.inr (by show w.heap.size ≤ w.heap.size + 1 + 1; omega)) _).setCell (p := ⟨w.heap.size + 1 + 1, 2, none⟩) (.inr (by show w.heap.size ≤ w.heap.size + 1 + 1; omega)) _

end Go.Proofs.Ytnmenihahgggmaa
