/-
  Layer 18: PathBack.
-/
import Derived.Test.YtnmenihahgggmaaPaX
namespace Go.Proofs.Ytnmenihahgggmaa
open Go.RowKit Go.Shelf

/-- A way's text, parsed again. -/
theorem back_facts {s t : List UInt8} (ht : t = textP (wayA s) (wayL s) (wayD s)) :
    (256 < t.length → errP t = 9) ∧ (¬ 256 < t.length → errP t = 0 ∧ wayL t = wayL s ∧ wayA t = wayA s ∧ wayD t = (wayD s || decide (wayL s = [])) ∧ textP (wayA t) (wayL t) (wayD t) = t) := by
  have hp := way_parts s
  have he := err_text (wayA s) (wayD s) hp (way_ok s)
  rw [← ht] at he
  constructor
  · intro hl
    rw [he, if_pos hl]
  · intro hl
    rw [if_neg hl] at he
    have h1 : wayL t = wayL s := by
      show (if errP t = 0 then partsP t else []) = _
      rw [if_pos he, ht, parts_text _ _ hp]
    have h2 : wayA t = wayA s := by
      show (decide (errP t = 0) && absP t) = _
      rw [decide_eq_true he, Bool.true_and, ht, abs_text _ _ hp]
    have h3 : wayD t = (wayD s || decide (wayL s = [])) := by
      show (decide (errP t = 0) && dirP t) = _
      rw [decide_eq_true he, Bool.true_and, ht, dir_text _ _ hp]
    refine ⟨he, h1, h2, h3, ?_⟩
    rw [h1, h2, h3, text_dir, ← ht]

set_option maxRecDepth 100000 in
set_option maxHeartbeats 8000000 in
theorem walk_PathBack (S : ByteArray) (hs : S.size ≤ maxLen) (_ : S.size ≤ reachBytes) (w : World) : Calls Try.prog 4 #[.string S] w fun e w' => e = .returned (.bool true) ∧ Below w.heap.size w w' := by
  unfold maxLen at hs
  obtain ⟨m, hm⟩ : ∃ m : Nat, m = min S.size 300 := ⟨_, rfl⟩
  have hmn := minAB Try.prog (S.size : Int) 300 m (by omega)
  have hm1 : m ≤ S.size := by omega
  obtain ⟨T, hT, hT3⟩ := cut_front S 300 m hm
  clear hm
  have HP := Lib.hid (fun s W => parse_u s W)
  have HW := Lib.hid wakes18_any
  have HT := Lib.hid (text_way T)
  by_cases hE : errP T = 0
  · have HF := Lib.hid (fun t => back_facts (s := T) (t := t))
    obtain ⟨t, ht⟩ : ∃ t, t = textP (wayA T) (wayL T) (wayD T) := ⟨_, rfl⟩
    have htl : t.length ≤ 1000 := by
      have h1 := text_len (wayA T) (wayD T) (wayL T)
      have h2 := way_len T
      rw [ht]
      omega
    have HF := Lib.hid (HF.out t ht)
    have hz := bsL_size t
    obtain ⟨A, hA⟩ : ∃ A, A = wayA T := ⟨_, rfl⟩
    obtain ⟨b, hb⟩ : ∃ b, b = wayD T := ⟨_, rfl⟩
    obtain ⟨n, hn⟩ : ∃ n, n = (wayL T).length := ⟨_, rfl⟩
    have HP1 := Lib.hid (show ∀ W, Calls Try.prog 7 #[.string (bsL T)] W fun e w' => ∃ ao cap, e = .returned (.tuple #[.agg #[.bool A, .slice ao n cap, .bool b], .int .i64 0]) ∧ SlS w' (.slice ao n cap) (wayL T) ∧ Gr [] W w' from fun W => by
      have q := parse_u T W
      unfold ParU at q
      rw [← hA, ← hb, ← hn, hE] at q
      exact q)
    have HT1 := Lib.hid (show ∀ ao cap W d, (d = b ∨ d = (b || decide (wayL T = []))) → SlS W (.slice ao n cap) (wayL T) → Calls Try.prog 11 #[.agg #[.bool A, .slice ao n cap, .bool d]] W fun e w' => e = .returned (.string (bsL t)) ∧ Gr [] W w' from fun ao cap W d hd hsl => by
      have q := text_way T ao cap W A d (by rw [← hn]; exact hsl)
      have : textP A (wayL T) d = t := by
        rcases hd with rfl | rfl
        · rw [ht, hA, hb]
        · rw [text_dir, ht, hA, hb]
      rw [this, ← hn] at q
      exact q)
    have hlist := bsL_list t
    by_cases hl : 256 < t.length
    · have hE2 := HF.out.1 hl
      have il : (256 : Int) < ((bsL t).size : Int) := by omega
      have G := Gr.refl [] w
      clear hA hb hn ht HF HT
      go_enter Try.func4, Try.ntmps4
      go_wp2_with (first
        | (go_at_call 9; refine (HW.out _).mono ?_; rintro e w3 ⟨rfl, g3⟩; have HB3 := HB1.gr0 g3; have c0 := HB3.cell 0; have c1 := HB3.cell 1; have c2 := HB3.cell 2; have G := G.next0 g3)
        | (go_at_call 7; (with_reducible refine (HP1.out _).mono ?_); rintro e w1 ⟨ao, cap, rfl, hs1, g1⟩; have G := (G.next0 g1).alloc (Obj.cells #[.bool A, .slice ao n cap, .bool b] 24); have HB1 := Holds.new w1 #[.bool A, .slice ao n cap, .bool b] 24; have HS1 := Lib.hid (hs1.gr0 ((Gr.refl [] w1).alloc (Obj.cells #[.bool A, .slice ao n cap, .bool b] 24))))
        | (go_at_call 7; (with_reducible refine (HP.out t _).mono ?_); rintro e w5 ⟨ao5, cap5, rfl, hs5, g5⟩; rw [hE2]; have G := G.next0 g5)
        | (go_at_call 11; (with_reducible refine (HT1.out ao cap _ _ (.inl rfl) (HS1.out.gr0 g3)).mono ?_); rintro e w4 ⟨rfl, g4⟩; have G := G.next0 g4))
      go_ret
      exact ⟨rfl, (G.alloc _).below0⟩
    · obtain ⟨f1, f2, f3, f4, f5⟩ := HF.out.2 hl
      have il : ¬ (256 : Int) < ((bsL t).size : Int) := by omega
      obtain ⟨c, hc⟩ : ∃ c, c = decide (wayL T = []) := ⟨_, rfl⟩
      have e0 : ((n : Int) == 0) = c := by
        rw [hc, hn, Bool.eq_iff_iff]
        simp
      have HP2 := Lib.hid (show ∀ W, Calls Try.prog 7 #[.string (bsL t)] W fun e w' => ∃ ao cap, e = .returned (.tuple #[.agg #[.bool A, .slice ao n cap, .bool (b || c)], .int .i64 0]) ∧ SlS w' (.slice ao n cap) (wayL T) ∧ Gr [] W w' ∧ ∀ k o, ao = some ⟨k, o, none⟩ → W.heap.size ≤ k from fun W => by
        have q := parse_f t W
        unfold ParF at q
        rw [f3, f2, f4, f1, ← hA, ← hb, ← hn, ← hc] at q
        exact q)
      rw [← hc] at HT1
      have HQ := Lib.hid (show ∀ d ao1 cap1 ao2 cap2 W, SlS W (.slice ao1 n cap1) (wayL T) → SlS W (.slice ao2 n cap2) (wayL T) → Calls Try.prog 10 #[.agg #[.bool A, .slice ao1 n cap1, .bool d], .agg #[.bool A, .slice ao2 n cap2, .bool d]] W fun e w' => e = .returned (.bool true) ∧ Gr [] W w' from fun d ao1 cap1 ao2 cap2 W q1 q2 => by
        have hwl := way_len T
        have q := same_at A d A d (wayL T) (wayL T) ao1 ao2 cap1 cap2 W (by rw [← hn]; exact q1) (by rw [← hn]; exact q2) (by omega) (by omega)
        rw [eqW_self, ← hn] at q
        exact q)
      have tt : (t == t) = true := by simp
      clear f1 f2 f3 f4 f5 hA hb hn hc ht HF HT HP
      have G := Gr.refl [] w
      cases b <;> cases c
      · go_enter Try.func4, Try.ntmps4
        go_wp2_with (first
          | (go_at_call 9; refine (HW.out _).mono ?_; rintro e w3 ⟨rfl, g3⟩; have HB3 := HB1.gr0 g3; have c0 := HB3.cell 0; have c1 := HB3.cell 1; have c2 := HB3.cell 2; have G := G.next0 g3)
          | (go_at_call 7; (with_reducible refine (HP1.out _).mono ?_); rintro e w1 ⟨ao, cap, rfl, hs1, g1⟩; have HB1 := Holds.new w1 #[.bool A, .slice ao n cap, .bool false] 24; have HS1 := Lib.hid (hs1.gr0 ((Gr.refl [] w1).alloc (Obj.cells #[.bool A, .slice ao n cap, .bool false] 24))); have HG1 := Lib.hid g1; have G := (G.next0 g1).alloc (Obj.cells #[.bool A, .slice ao n cap, .bool false] 24))
          | (go_at_call 11; (with_reducible refine (HT1.out ao cap _ _ (.inl rfl) (HS1.out.gr0 g3)).mono ?_); rintro e w4 ⟨rfl, g4⟩; have G := G.next0 g4)
          | (go_at_call 7; (with_reducible refine (HP2.out _).mono ?_); rintro e w5 ⟨ao5, cap5, rfl, hs5, g5, hf5⟩; have hb4 := (HB3.gr0 g4).lt; have HB5 := HB3.gr0 (g4.next0 g5); have hb5 := HB5.lt; have d0 := (HB5.alloc (Obj.cells #[.bool A, .slice ao5 n cap5, .bool false] 24)).cell 0; have d1 := (HB5.alloc (Obj.cells #[.bool A, .slice ao5 n cap5, .bool false] 24)).cell 1; have d2 := (HB5.alloc (Obj.cells #[.bool A, .slice ao5 n cap5, .bool false] 24)).cell 2; have df := (HB5.alloc (Obj.cells #[.bool A, .slice ao5 n cap5, .bool false] 24)).frozen 2; have z5 : (w5.setCell ⟨w1.heap.size, 2, none⟩ (.bool false)).heap.size = w5.heap.size := (by simp [World.setCell]); have HB7 := (HB5.set 2 (.bool false)).alloc (Obj.cells #[.bool A, .slice ao5 n cap5, .bool false] 24); have HB8 := Holds.new (w5.setCell ⟨w1.heap.size, 2, none⟩ (.bool false)) #[.bool A, .slice ao5 n cap5, .bool false] 24; rw [z5] at HB8; have G := ((G.next0 g5).setCell (p := ⟨w1.heap.size, 2, none⟩) (.inr HG1.out.size) (.bool false)).alloc (Obj.cells #[.bool A, .slice ao5 n cap5, .bool false] 24); have HS5 := Lib.hid ((hs5.grB ((Gr.refl [w1.heap.size] w5).setCell (p := ⟨w1.heap.size, 2, none⟩) (.inl (by simp)) (.bool false)) (fun k o q => by have := hf5 k o q; omega)).gr0 ((Gr.refl [] _).alloc (Obj.cells #[.bool A, .slice ao5 n cap5, .bool false] 24))); have HS6 := Lib.hid (hs1.gr0 (((((Gr.refl [] w1).alloc (Obj.cells #[.bool A, .slice ao n cap, .bool false] 24)).next0 (g3.next0 (g4.next0 g5))).setCell (p := ⟨w1.heap.size, 2, none⟩) (.inr (Nat.le_refl _)) (.bool false)).alloc (Obj.cells #[.bool A, .slice ao5 n cap5, .bool false] 24))); have k0 := HB8.cell 0; have k1 := HB8.cell 1; have k2 := HB8.cell 2; have m0 := HB7.cell 0; have m1 := HB7.cell 1; have m2 := HB7.cell 2; have HQ1 := Lib.hid (HQ.out false _ _ _ _ _ HS5.out HS6.out))
          | (go_at_call 10; (with_reducible refine HQ1.out.mono ?_); rintro e w7 ⟨rfl, g7⟩; have j0 := (HB8.gr0 g7).cell 0; have j1 := (HB8.gr0 g7).cell 1; have j2 := (HB8.gr0 g7).cell 2; have G := G.next0 g7; have HT2 := Lib.hid (HT1.out _ _ _ false (.inr rfl) (HS5.out.gr0 g7)))
          | (go_at_call 11; (with_reducible refine HT2.out.mono ?_); rintro e w8 ⟨rfl, g8⟩; have G := G.next0 g8))
        go_ret
        exact ⟨rfl, G.below0⟩
      · go_enter Try.func4, Try.ntmps4
        go_wp2_with (first
          | (go_at_call 9; refine (HW.out _).mono ?_; rintro e w3 ⟨rfl, g3⟩; have HB3 := HB1.gr0 g3; have c0 := HB3.cell 0; have c1 := HB3.cell 1; have c2 := HB3.cell 2; have G := G.next0 g3)
          | (go_at_call 7; (with_reducible refine (HP1.out _).mono ?_); rintro e w1 ⟨ao, cap, rfl, hs1, g1⟩; have HB1 := Holds.new w1 #[.bool A, .slice ao n cap, .bool false] 24; have HS1 := Lib.hid (hs1.gr0 ((Gr.refl [] w1).alloc (Obj.cells #[.bool A, .slice ao n cap, .bool false] 24))); have HG1 := Lib.hid g1; have G := (G.next0 g1).alloc (Obj.cells #[.bool A, .slice ao n cap, .bool false] 24))
          | (go_at_call 11; (with_reducible refine (HT1.out ao cap _ _ (.inl rfl) (HS1.out.gr0 g3)).mono ?_); rintro e w4 ⟨rfl, g4⟩; have G := G.next0 g4)
          | (go_at_call 7; (with_reducible refine (HP2.out _).mono ?_); rintro e w5 ⟨ao5, cap5, rfl, hs5, g5, hf5⟩; have hb4 := (HB3.gr0 g4).lt; have HB5 := HB3.gr0 (g4.next0 g5); have hb5 := HB5.lt; have d0 := (HB5.alloc (Obj.cells #[.bool A, .slice ao5 n cap5, .bool true] 24)).cell 0; have d1 := (HB5.alloc (Obj.cells #[.bool A, .slice ao5 n cap5, .bool true] 24)).cell 1; have d2 := (HB5.alloc (Obj.cells #[.bool A, .slice ao5 n cap5, .bool true] 24)).cell 2; have df := (HB5.alloc (Obj.cells #[.bool A, .slice ao5 n cap5, .bool true] 24)).frozen 2; have z5 : (w5.setCell ⟨w1.heap.size, 2, none⟩ (.bool true)).heap.size = w5.heap.size := (by simp [World.setCell]); have HB7 := (HB5.set 2 (.bool true)).alloc (Obj.cells #[.bool A, .slice ao5 n cap5, .bool true] 24); have HB8 := Holds.new (w5.setCell ⟨w1.heap.size, 2, none⟩ (.bool true)) #[.bool A, .slice ao5 n cap5, .bool true] 24; rw [z5] at HB8; have G := ((G.next0 g5).setCell (p := ⟨w1.heap.size, 2, none⟩) (.inr HG1.out.size) (.bool true)).alloc (Obj.cells #[.bool A, .slice ao5 n cap5, .bool true] 24); have HS5 := Lib.hid ((hs5.grB ((Gr.refl [w1.heap.size] w5).setCell (p := ⟨w1.heap.size, 2, none⟩) (.inl (by simp)) (.bool true)) (fun k o q => by have := hf5 k o q; omega)).gr0 ((Gr.refl [] _).alloc (Obj.cells #[.bool A, .slice ao5 n cap5, .bool true] 24))); have HS6 := Lib.hid (hs1.gr0 (((((Gr.refl [] w1).alloc (Obj.cells #[.bool A, .slice ao n cap, .bool false] 24)).next0 (g3.next0 (g4.next0 g5))).setCell (p := ⟨w1.heap.size, 2, none⟩) (.inr (Nat.le_refl _)) (.bool true)).alloc (Obj.cells #[.bool A, .slice ao5 n cap5, .bool true] 24))); have k0 := HB8.cell 0; have k1 := HB8.cell 1; have k2 := HB8.cell 2; have m0 := HB7.cell 0; have m1 := HB7.cell 1; have m2 := HB7.cell 2; have HQ1 := Lib.hid (HQ.out true _ _ _ _ _ HS5.out HS6.out))
          | (go_at_call 10; (with_reducible refine HQ1.out.mono ?_); rintro e w7 ⟨rfl, g7⟩; have j0 := (HB8.gr0 g7).cell 0; have j1 := (HB8.gr0 g7).cell 1; have j2 := (HB8.gr0 g7).cell 2; have G := G.next0 g7; have HT2 := Lib.hid (HT1.out _ _ _ true (.inr rfl) (HS5.out.gr0 g7)))
          | (go_at_call 11; (with_reducible refine HT2.out.mono ?_); rintro e w8 ⟨rfl, g8⟩; have G := G.next0 g8))
        go_ret
        exact ⟨rfl, G.below0⟩
      · go_enter Try.func4, Try.ntmps4
        go_wp2_with (first
          | (go_at_call 9; refine (HW.out _).mono ?_; rintro e w3 ⟨rfl, g3⟩; have HB3 := HB1.gr0 g3; have c0 := HB3.cell 0; have c1 := HB3.cell 1; have c2 := HB3.cell 2; have G := G.next0 g3)
          | (go_at_call 7; (with_reducible refine (HP1.out _).mono ?_); rintro e w1 ⟨ao, cap, rfl, hs1, g1⟩; have HB1 := Holds.new w1 #[.bool A, .slice ao n cap, .bool true] 24; have HS1 := Lib.hid (hs1.gr0 ((Gr.refl [] w1).alloc (Obj.cells #[.bool A, .slice ao n cap, .bool true] 24))); have HG1 := Lib.hid g1; have G := (G.next0 g1).alloc (Obj.cells #[.bool A, .slice ao n cap, .bool true] 24))
          | (go_at_call 11; (with_reducible refine (HT1.out ao cap _ _ (.inl rfl) (HS1.out.gr0 g3)).mono ?_); rintro e w4 ⟨rfl, g4⟩; have G := G.next0 g4)
          | (go_at_call 7; (with_reducible refine (HP2.out _).mono ?_); rintro e w5 ⟨ao5, cap5, rfl, hs5, g5, hf5⟩; have hb4 := (HB3.gr0 g4).lt; have HB5 := HB3.gr0 (g4.next0 g5); have hb5 := HB5.lt; have d0 := (HB5.alloc (Obj.cells #[.bool A, .slice ao5 n cap5, .bool true] 24)).cell 0; have d1 := (HB5.alloc (Obj.cells #[.bool A, .slice ao5 n cap5, .bool true] 24)).cell 1; have d2 := (HB5.alloc (Obj.cells #[.bool A, .slice ao5 n cap5, .bool true] 24)).cell 2; have df := (HB5.alloc (Obj.cells #[.bool A, .slice ao5 n cap5, .bool true] 24)).frozen 2; have z5 : (w5.setCell ⟨w1.heap.size, 2, none⟩ (.bool true)).heap.size = w5.heap.size := (by simp [World.setCell]); have HB7 := (HB5.set 2 (.bool true)).alloc (Obj.cells #[.bool A, .slice ao5 n cap5, .bool true] 24); have HB8 := Holds.new (w5.setCell ⟨w1.heap.size, 2, none⟩ (.bool true)) #[.bool A, .slice ao5 n cap5, .bool true] 24; rw [z5] at HB8; have G := ((G.next0 g5).setCell (p := ⟨w1.heap.size, 2, none⟩) (.inr HG1.out.size) (.bool true)).alloc (Obj.cells #[.bool A, .slice ao5 n cap5, .bool true] 24); have HS5 := Lib.hid ((hs5.grB ((Gr.refl [w1.heap.size] w5).setCell (p := ⟨w1.heap.size, 2, none⟩) (.inl (by simp)) (.bool true)) (fun k o q => by have := hf5 k o q; omega)).gr0 ((Gr.refl [] _).alloc (Obj.cells #[.bool A, .slice ao5 n cap5, .bool true] 24))); have HS6 := Lib.hid (hs1.gr0 (((((Gr.refl [] w1).alloc (Obj.cells #[.bool A, .slice ao n cap, .bool true] 24)).next0 (g3.next0 (g4.next0 g5))).setCell (p := ⟨w1.heap.size, 2, none⟩) (.inr (Nat.le_refl _)) (.bool true)).alloc (Obj.cells #[.bool A, .slice ao5 n cap5, .bool true] 24))); have k0 := HB8.cell 0; have k1 := HB8.cell 1; have k2 := HB8.cell 2; have m0 := HB7.cell 0; have m1 := HB7.cell 1; have m2 := HB7.cell 2; have HQ1 := Lib.hid (HQ.out true _ _ _ _ _ HS5.out HS6.out))
          | (go_at_call 10; (with_reducible refine HQ1.out.mono ?_); rintro e w7 ⟨rfl, g7⟩; have j0 := (HB8.gr0 g7).cell 0; have j1 := (HB8.gr0 g7).cell 1; have j2 := (HB8.gr0 g7).cell 2; have G := G.next0 g7; have HT2 := Lib.hid (HT1.out _ _ _ true (.inr rfl) (HS5.out.gr0 g7)))
          | (go_at_call 11; (with_reducible refine HT2.out.mono ?_); rintro e w8 ⟨rfl, g8⟩; have G := G.next0 g8))
        go_ret
        exact ⟨rfl, G.below0⟩
      · go_enter Try.func4, Try.ntmps4
        go_wp2_with (first
          | (go_at_call 9; refine (HW.out _).mono ?_; rintro e w3 ⟨rfl, g3⟩; have HB3 := HB1.gr0 g3; have c0 := HB3.cell 0; have c1 := HB3.cell 1; have c2 := HB3.cell 2; have G := G.next0 g3)
          | (go_at_call 7; (with_reducible refine (HP1.out _).mono ?_); rintro e w1 ⟨ao, cap, rfl, hs1, g1⟩; have HB1 := Holds.new w1 #[.bool A, .slice ao n cap, .bool true] 24; have HS1 := Lib.hid (hs1.gr0 ((Gr.refl [] w1).alloc (Obj.cells #[.bool A, .slice ao n cap, .bool true] 24))); have HG1 := Lib.hid g1; have G := (G.next0 g1).alloc (Obj.cells #[.bool A, .slice ao n cap, .bool true] 24))
          | (go_at_call 11; (with_reducible refine (HT1.out ao cap _ _ (.inl rfl) (HS1.out.gr0 g3)).mono ?_); rintro e w4 ⟨rfl, g4⟩; have G := G.next0 g4)
          | (go_at_call 7; (with_reducible refine (HP2.out _).mono ?_); rintro e w5 ⟨ao5, cap5, rfl, hs5, g5, hf5⟩; have hb4 := (HB3.gr0 g4).lt; have HB5 := HB3.gr0 (g4.next0 g5); have hb5 := HB5.lt; have d0 := (HB5.alloc (Obj.cells #[.bool A, .slice ao5 n cap5, .bool true] 24)).cell 0; have d1 := (HB5.alloc (Obj.cells #[.bool A, .slice ao5 n cap5, .bool true] 24)).cell 1; have d2 := (HB5.alloc (Obj.cells #[.bool A, .slice ao5 n cap5, .bool true] 24)).cell 2; have df := (HB5.alloc (Obj.cells #[.bool A, .slice ao5 n cap5, .bool true] 24)).frozen 2; have z5 : (w5.setCell ⟨w1.heap.size, 2, none⟩ (.bool true)).heap.size = w5.heap.size := (by simp [World.setCell]); have HB7 := (HB5.set 2 (.bool true)).alloc (Obj.cells #[.bool A, .slice ao5 n cap5, .bool true] 24); have HB8 := Holds.new (w5.setCell ⟨w1.heap.size, 2, none⟩ (.bool true)) #[.bool A, .slice ao5 n cap5, .bool true] 24; rw [z5] at HB8; have G := ((G.next0 g5).setCell (p := ⟨w1.heap.size, 2, none⟩) (.inr HG1.out.size) (.bool true)).alloc (Obj.cells #[.bool A, .slice ao5 n cap5, .bool true] 24); have HS5 := Lib.hid ((hs5.grB ((Gr.refl [w1.heap.size] w5).setCell (p := ⟨w1.heap.size, 2, none⟩) (.inl (by simp)) (.bool true)) (fun k o q => by have := hf5 k o q; omega)).gr0 ((Gr.refl [] _).alloc (Obj.cells #[.bool A, .slice ao5 n cap5, .bool true] 24))); have HS6 := Lib.hid (hs1.gr0 (((((Gr.refl [] w1).alloc (Obj.cells #[.bool A, .slice ao n cap, .bool true] 24)).next0 (g3.next0 (g4.next0 g5))).setCell (p := ⟨w1.heap.size, 2, none⟩) (.inr (Nat.le_refl _)) (.bool true)).alloc (Obj.cells #[.bool A, .slice ao5 n cap5, .bool true] 24))); have k0 := HB8.cell 0; have k1 := HB8.cell 1; have k2 := HB8.cell 2; have m0 := HB7.cell 0; have m1 := HB7.cell 1; have m2 := HB7.cell 2; have HQ1 := Lib.hid (HQ.out true _ _ _ _ _ HS5.out HS6.out))
          | (go_at_call 10; (with_reducible refine HQ1.out.mono ?_); rintro e w7 ⟨rfl, g7⟩; have j0 := (HB8.gr0 g7).cell 0; have j1 := (HB8.gr0 g7).cell 1; have j2 := (HB8.gr0 g7).cell 2; have G := G.next0 g7; have HT2 := Lib.hid (HT1.out _ _ _ true (.inr rfl) (HS5.out.gr0 g7)))
          | (go_at_call 11; (with_reducible refine HT2.out.mono ?_); rintro e w8 ⟨rfl, g8⟩; have G := G.next0 g8))
        go_ret
        exact ⟨rfl, G.below0⟩
  · have e0 : (errP T == 0) = false := by simpa using hE
    have e1 : (errP T != 0) = true := by simpa using hE
    go_enter Try.func4, Try.ntmps4
    have G := Gr.refl [] w
    go_wp2_with (first
      | (go_at_call 9; (with_reducible refine (HW.out _).mono ?_); rintro e w3 ⟨rfl, g3⟩; have G := G.next0 g3)
      | (go_at_call 7; (with_reducible refine (HP.out T _).mono ?_); rintro e w1 ⟨ao, cap, rfl, hs1, g1⟩; have G := (G.next0 g1).alloc (Obj.cells #[.bool (wayA T), .slice ao (wayL T).length cap, .bool (wayD T)] 24)))
    go_ret
    exact ⟨rfl, G.below0⟩

end Go.Proofs.Ytnmenihahgggmaa
