/-
  TaAr: TrV, TrW, TrX.
-/
import Derived.Test.YtgleopahldpajaaGreatTaAo
import Derived.Test.YtgleopahldpajaaGreatTaAq

set_option linter.unusedVariables false

/-
  Layer 19 (tree): of a nil tree nothing is told.
-/
set_option linter.unusedSimpArgs false
namespace Go.Proofs.YtgleopahldpajaaGreat
open Go.RowKit
set_option linter.unusedVariables false
set_option maxRecDepth 20000 in
set_option maxHeartbeats 1000000 in
theorem dir_nil19 (n : Int) (w : World) : Calls Tryz.prog 85 #[.pointer none, .int .i64 n] w fun e w' => e = .returned (.tuple #[ndVal ndZero, .int .i64 1]) ∧ Gr [] w w' := by
  have g1 := (Gr.refl [] w).alloc (Obj.cells #[.int .u8 0, .int .i64 0, .int .i64 0, .slice none 0 0, .string ⟨#[]⟩, .pointer none, .int .i64 0, .int .i64 0] 125)
  have HB := Lib.hid (Holds.new w #[.int .u8 0, .int .i64 0, .int .i64 0, .slice none 0 0, .string ⟨#[]⟩, .pointer none, .int .i64 0, .int .i64 0] 125)
  have HN := Lib.hid (node_nil n (w.alloc (Obj.cells #[.int .u8 0, .int .i64 0, .int .i64 0, .slice none 0 0, .string ⟨#[]⟩, .pointer none, .int .i64 0, .int .i64 0] 125)))
  have HG := Lib.hid g1
  clear g1
  go_enter Tryz.func85, Tryz.ntmps85
  go_wp2_with fail
  with_reducible refine HN.out.mono ?_
  rintro e w1 ⟨rfl, g2⟩
  have HG2 := Lib.hid (HG.out.next0 g2)
  have HR := Lib.hid ((HB.out.gr0 g2).alloc (Obj.cells #[.int .u8 0, .int .i64 0, .int .i64 0, .slice none 0 0, .string ⟨#[]⟩, .pointer none, .int .i64 0, .int .i64 0] 125))
  have c0 := HR.out.cell 0
  have f0 := HR.out.frozen 0
  have c1 := HR.out.cell 1
  have f1 := HR.out.frozen 1
  have c2 := HR.out.cell 2
  have f2 := HR.out.frozen 2
  have c3 := HR.out.cell 3
  have f3 := HR.out.frozen 3
  have c4 := HR.out.cell 4
  have f4 := HR.out.frozen 4
  have c5 := HR.out.cell 5
  have f5 := HR.out.frozen 5
  have c6 := HR.out.cell 6
  have f6 := HR.out.frozen 6
  have c7 := HR.out.cell 7
  have f7 := HR.out.frozen 7
  have l1 := g2.size
  rw [World.size_alloc] at l1
  unfold ndVal ndZero
  clear g2 HN HG
  go_wp2_with fail
  exact bodyPost_ret (v := .tuple #[.agg #[.int .u8 0, .int .i64 0, .int .i64 0, .slice none 0 0, .string ⟨#[]⟩, .pointer none, .int .i64 0, .int .i64 0], .int .i64 1]) (by simp [results, Tryz.results85, go_sem, *]) rfl ⟨rfl, gr8 (HG2.out.alloc _) (.inr (Nat.le_refl _)) _ _ _ _ _ _ _ _⟩
set_option maxRecDepth 20000 in
set_option maxHeartbeats 1000000 in
theorem usable_nil19 (n : Int) (w : World) : Calls Tryz.prog 90 #[.pointer none, .int .i64 n] w fun e w' => e = .returned (.tuple #[ndVal ndZero, .int .i64 1]) ∧ Gr [] w w' := by
  have g1 := (Gr.refl [] w).alloc (Obj.cells #[.int .u8 0, .int .i64 0, .int .i64 0, .slice none 0 0, .string ⟨#[]⟩, .pointer none, .int .i64 0, .int .i64 0] 125)
  have HB := Lib.hid (Holds.new w #[.int .u8 0, .int .i64 0, .int .i64 0, .slice none 0 0, .string ⟨#[]⟩, .pointer none, .int .i64 0, .int .i64 0] 125)
  have HN := Lib.hid (dir_nil19 n (w.alloc (Obj.cells #[.int .u8 0, .int .i64 0, .int .i64 0, .slice none 0 0, .string ⟨#[]⟩, .pointer none, .int .i64 0, .int .i64 0] 125)))
  have HG := Lib.hid g1
  clear g1
  go_enter Tryz.func90, Tryz.ntmps90
  go_wp2_with fail
  with_reducible refine HN.out.mono ?_
  rintro e w1 ⟨rfl, g2⟩
  have HG2 := Lib.hid (HG.out.next0 g2)
  have HR := Lib.hid ((HB.out.gr0 g2).alloc (Obj.cells #[.int .u8 0, .int .i64 0, .int .i64 0, .slice none 0 0, .string ⟨#[]⟩, .pointer none, .int .i64 0, .int .i64 0] 125))
  have c0 := HR.out.cell 0
  have f0 := HR.out.frozen 0
  have c1 := HR.out.cell 1
  have f1 := HR.out.frozen 1
  have c2 := HR.out.cell 2
  have f2 := HR.out.frozen 2
  have c3 := HR.out.cell 3
  have f3 := HR.out.frozen 3
  have c4 := HR.out.cell 4
  have f4 := HR.out.frozen 4
  have c5 := HR.out.cell 5
  have f5 := HR.out.frozen 5
  have c6 := HR.out.cell 6
  have f6 := HR.out.frozen 6
  have c7 := HR.out.cell 7
  have f7 := HR.out.frozen 7
  have l1 := g2.size
  rw [World.size_alloc] at l1
  unfold ndVal ndZero
  clear g2 HN HG
  go_wp2_with fail
  exact bodyPost_ret (v := .tuple #[.agg #[.int .u8 0, .int .i64 0, .int .i64 0, .slice none 0 0, .string ⟨#[]⟩, .pointer none, .int .i64 0, .int .i64 0], .int .i64 1]) (by simp [results, Tryz.results90, go_sem, *]) rfl ⟨rfl, gr8 (HG2.out.alloc _) (.inr (Nat.le_refl _)) _ _ _ _ _ _ _ _⟩
set_option maxRecDepth 20000 in
set_option maxHeartbeats 1000000 in
theorem vacant_nil19 (n : Int) (s : ByteArray) (w : World) : Calls Tryz.prog 63 #[.pointer none, .int .i64 n, .string s] w fun e w' => e = .returned (.tuple #[ndVal ndZero, .int .i64 1]) ∧ Gr [] w w' := by
  have g1 := (Gr.refl [] w).alloc (Obj.cells #[.int .u8 0, .int .i64 0, .int .i64 0, .slice none 0 0, .string ⟨#[]⟩, .pointer none, .int .i64 0, .int .i64 0] 125)
  have HB := Lib.hid (Holds.new w #[.int .u8 0, .int .i64 0, .int .i64 0, .slice none 0 0, .string ⟨#[]⟩, .pointer none, .int .i64 0, .int .i64 0] 125)
  have HN := Lib.hid (usable_nil19 n (w.alloc (Obj.cells #[.int .u8 0, .int .i64 0, .int .i64 0, .slice none 0 0, .string ⟨#[]⟩, .pointer none, .int .i64 0, .int .i64 0] 125)))
  have HG := Lib.hid g1
  clear g1
  go_enter Tryz.func63, Tryz.ntmps63
  go_wp2_with fail
  with_reducible refine HN.out.mono ?_
  rintro e w1 ⟨rfl, g2⟩
  have HG2 := Lib.hid (HG.out.next0 g2)
  have HR := Lib.hid ((HB.out.gr0 g2).alloc (Obj.cells #[.int .u8 0, .int .i64 0, .int .i64 0, .slice none 0 0, .string ⟨#[]⟩, .pointer none, .int .i64 0, .int .i64 0] 125))
  have c0 := HR.out.cell 0
  have f0 := HR.out.frozen 0
  have c1 := HR.out.cell 1
  have f1 := HR.out.frozen 1
  have c2 := HR.out.cell 2
  have f2 := HR.out.frozen 2
  have c3 := HR.out.cell 3
  have f3 := HR.out.frozen 3
  have c4 := HR.out.cell 4
  have f4 := HR.out.frozen 4
  have c5 := HR.out.cell 5
  have f5 := HR.out.frozen 5
  have c6 := HR.out.cell 6
  have f6 := HR.out.frozen 6
  have c7 := HR.out.cell 7
  have f7 := HR.out.frozen 7
  have l1 := g2.size
  rw [World.size_alloc] at l1
  unfold ndVal ndZero
  clear g2 HN HG
  go_wp2_with fail
  exact bodyPost_ret (v := .tuple #[.agg #[.int .u8 0, .int .i64 0, .int .i64 0, .slice none 0 0, .string ⟨#[]⟩, .pointer none, .int .i64 0, .int .i64 0], .int .i64 1]) (by simp [results, Tryz.results63, go_sem, *]) rfl ⟨rfl, gr8 (HG2.out.alloc _) (.inr (Nat.le_refl _)) _ _ _ _ _ _ _ _⟩
set_option maxRecDepth 20000 in
set_option maxHeartbeats 1000000 in
theorem Find_nil19 (n : Int) (s : ByteArray) (w : World) : Calls Tryz.prog 25 #[.pointer none, .int .i64 n, .string s] w fun e w' => e = .returned (.tuple #[.int .i64 0, .int .i64 1]) ∧ Gr [] w w' := by
  have HN := Lib.hid (fun W => dir_nil19 n W)
  go_enter Tryz.func25, Tryz.ntmps25
  go_wp2_with fail
  with_reducible refine (HN.out _).mono ?_
  rintro e w1 ⟨rfl, g1⟩
  unfold ndVal ndZero
  go_wp2_with fail
  go_ret2
  exact ⟨rfl, g1.alloc _⟩
set_option maxRecDepth 20000 in
set_option maxHeartbeats 1000000 in
theorem Up_nil19 (n : Int) (w : World) : Calls Tryz.prog 28 #[.pointer none, .int .i64 n] w fun e w' => e = .returned (.tuple #[.int .i64 0, .int .i64 1]) ∧ Gr [] w w' := by
  have HN := Lib.hid (fun W => usable_nil19 n W)
  go_enter Tryz.func28, Tryz.ntmps28
  go_wp2_with fail
  with_reducible refine (HN.out _).mono ?_
  rintro e w1 ⟨rfl, g1⟩
  unfold ndVal ndZero
  go_wp2_with fail
  go_ret2
  exact ⟨rfl, g1.alloc _⟩
set_option maxRecDepth 20000 in
set_option maxHeartbeats 1000000 in
theorem Link_nil19 (of n : Int) (s : ByteArray) (w : World) : Calls Tryz.prog 29 #[.pointer none, .int .i64 of, .int .i64 n, .string s] w fun e w' => e = .returned (.int .i64 1) ∧ Gr [] w w' := by
  have HN := Lib.hid (fun W => node_nil of W)
  go_enter Tryz.func29, Tryz.ntmps29
  go_wp2_with fail
  with_reducible refine (HN.out _).mono ?_
  rintro e w1 ⟨rfl, g1⟩
  unfold ndVal ndZero
  go_wp2_with fail
  go_ret
  exact ⟨rfl, g1.alloc _⟩
set_option maxRecDepth 20000 in
set_option maxHeartbeats 1000000 in
theorem Unlink_nil19 (n : Int) (s : ByteArray) (w : World) : Calls Tryz.prog 15 #[.pointer none, .int .i64 n, .string s] w fun e w' => e = .returned (.tuple #[.slice none 0 0, .int .i64 1]) ∧ Gr [] w w' := by
  have HN := Lib.hid (fun W => Find_nil19 n s W)
  go_enter Tryz.func15, Tryz.ntmps15
  go_wp2_with fail
  with_reducible refine (HN.out _).mono ?_
  rintro e w1 ⟨rfl, g1⟩
  go_wp2_with fail
  go_ret2
  exact ⟨rfl, g1⟩
set_option maxRecDepth 20000 in
set_option maxHeartbeats 1000000 in
theorem Rmdir_nil19 (n : Int) (s : ByteArray) (w : World) : Calls Tryz.prog 30 #[.pointer none, .int .i64 n, .string s] w fun e w' => e = .returned (.int .i64 1) ∧ Gr [] w w' := by
  have HN := Lib.hid (fun W => Find_nil19 n s W)
  go_enter Tryz.func30, Tryz.ntmps30
  go_wp2_with fail
  with_reducible refine (HN.out _).mono ?_
  rintro e w1 ⟨rfl, g1⟩
  go_wp2_with fail
  go_ret
  exact ⟨rfl, g1⟩
set_option maxRecDepth 20000 in
set_option maxHeartbeats 1000000 in
theorem mover_nil19 (from0 : Int) (s : ByteArray) (to0 : Int) (u : ByteArray) (w : World) : Calls Tryz.prog 87 #[.pointer none, .int .i64 from0, .string s, .int .i64 to0, .string u] w fun e w' => e = .returned (.tuple #[.int .i64 0, .int .i64 1]) ∧ Gr [] w w' := by
  have HN := Lib.hid (fun W => usable_nil19 from0 W)
  go_enter Tryz.func87, Tryz.ntmps87
  go_wp2_with fail
  with_reducible refine (HN.out _).mono ?_
  rintro e w1 ⟨rfl, g1⟩
  unfold ndVal ndZero
  go_wp2_with fail
  go_ret2
  exact ⟨rfl, g1.alloc _⟩
set_option maxRecDepth 20000 in
set_option maxHeartbeats 1000000 in
theorem Rename_nil19 (from0 : Int) (s : ByteArray) (to0 : Int) (u : ByteArray) (w : World) : Calls Tryz.prog 26 #[.pointer none, .int .i64 from0, .string s, .int .i64 to0, .string u] w fun e w' => e = .returned (.tuple #[.slice none 0 0, .int .i64 1]) ∧ Gr [] w w' := by
  have HN := Lib.hid (fun W => mover_nil19 from0 s to0 u W)
  go_enter Tryz.func26, Tryz.ntmps26
  go_wp2_with fail
  with_reducible refine (HN.out _).mono ?_
  rintro e w1 ⟨rfl, g1⟩
  go_wp2_with fail
  go_ret2
  exact ⟨rfl, g1⟩
set_option maxRecDepth 20000 in
set_option maxHeartbeats 1000000 in
theorem Set_nil19 (n z : Int) (bv : Value) (w : World) : Calls Tryz.prog 31 #[.pointer none, .int .i64 n, .int .i64 z, bv] w fun e w' => e = .returned (.int .i64 1) ∧ Gr [] w w' := by
  have HN := Lib.hid (fun W => node_nil n W)
  go_enter Tryz.func31, Tryz.ntmps31
  go_wp2_with fail
  with_reducible refine (HN.out _).mono ?_
  rintro e w1 ⟨rfl, g1⟩
  unfold ndVal ndZero
  go_wp2_with fail
  go_ret
  exact ⟨rfl, g1.alloc _⟩
set_option maxRecDepth 20000 in
set_option maxHeartbeats 1000000 in
theorem Pin_nil19 (n : Int) (w : World) : Calls Tryz.prog 32 #[.pointer none, .int .i64 n] w fun e w' => e = .returned (.int .i64 1) ∧ Gr [] w w' := by
  have HN := Lib.hid (fun W => node_nil n W)
  go_enter Tryz.func32, Tryz.ntmps32
  go_wp2_with fail
  with_reducible refine (HN.out _).mono ?_
  rintro e w1 ⟨rfl, g1⟩
  unfold ndVal ndZero
  go_wp2_with fail
  go_ret
  exact ⟨rfl, g1.alloc _⟩
set_option maxRecDepth 20000 in
set_option maxHeartbeats 1000000 in
theorem Unpin_nil19 (n : Int) (w : World) : Calls Tryz.prog 27 #[.pointer none, .int .i64 n] w fun e w' => e = .returned (.tuple #[.slice none 0 0, .int .i64 1]) ∧ Gr [] w w' := by
  have HN := Lib.hid (fun W => node_nil n W)
  go_enter Tryz.func27, Tryz.ntmps27
  go_wp2_with fail
  with_reducible refine (HN.out _).mono ?_
  rintro e w1 ⟨rfl, g1⟩
  unfold ndVal ndZero
  go_wp2_with fail
  go_ret2
  exact ⟨rfl, g1.alloc _⟩
set_option maxRecDepth 20000 in
set_option maxHeartbeats 1000000 in
theorem Make_nil19 (n : Int) (s : ByteArray) (k l0 sz : Int) (sv : Value) (t : ByteArray) (w : World) : Calls Tryz.prog 16 #[.pointer none, .int .i64 n, .string s, .agg #[.int .u8 k, .int .i64 l0, .int .i64 sz, sv, .string t]] w fun e w' => e = .returned (.tuple #[.int .i64 0, .int .i64 1]) ∧ Gr [] w w' := by
  have HN := Lib.hid (vacant_nil19 n s (w.alloc (Obj.cells #[.int .u8 k, .int .i64 l0, .int .i64 sz, sv, .string t] 42)))
  have HG := Lib.hid ((Gr.refl [] w).alloc (Obj.cells #[.int .u8 k, .int .i64 l0, .int .i64 sz, sv, .string t] 42))
  go_enter Tryz.func16, Tryz.ntmps16
  go_wp2_with fail
  with_reducible refine HN.out.mono ?_
  rintro e w1 ⟨rfl, g1⟩
  have HG2 := Lib.hid ((HG.out.next0 g1).alloc (Obj.cells #[.int .u8 0, .int .i64 0, .int .i64 0, .slice none 0 0, .string ⟨#[]⟩, .pointer none, .int .i64 0, .int .i64 0] 125))
  unfold ndVal ndZero
  clear g1 HN HG
  go_wp2_with fail
  go_ret2
  exact ⟨rfl, HG2.out⟩
set_option maxRecDepth 20000 in
set_option maxHeartbeats 1000000 in
theorem Walk_nil19 (n : Int) (a : Bool) (sv : Value) (d l : Bool) (w : World) : Calls Tryz.prog 21 #[.pointer none, .int .i64 n, .agg #[.bool a, sv, .bool d], .bool l] w fun e w' => e = .returned (.tuple #[.int .i64 0, .int .i64 1]) ∧ Gr [] w w' := by
  have HN := Lib.hid (node_nil n (w.alloc (Obj.cells #[.bool a, sv, .bool d] 52)))
  have HG := Lib.hid ((Gr.refl [] w).alloc (Obj.cells #[.bool a, sv, .bool d] 52))
  go_enter Tryz.func21, Tryz.ntmps21
  go_wp2_with fail
  with_reducible refine HN.out.mono ?_
  rintro e w1 ⟨rfl, g1⟩
  have HG2 := Lib.hid ((HG.out.next0 g1).alloc (Obj.cells #[.int .u8 0, .int .i64 0, .int .i64 0, .slice none 0 0, .string ⟨#[]⟩, .pointer none, .int .i64 0, .int .i64 0] 125))
  unfold ndVal ndZero
  clear g1 HN HG
  go_wp2_with fail
  go_ret2
  exact ⟨rfl, HG2.out⟩
set_option maxRecDepth 20000 in
theorem Names_nil19 (n : Int) (w : World) : Calls Tryz.prog 24 #[.pointer none, .int .i64 n] w fun e w' => e = .returned (.tuple #[.slice none 0 0, .int .i64 1]) ∧ Gr [] w w' := by
  have HN := Lib.hid (dir_nil19 n w)
  have HL := Lib.hid (fun W => dlist_nil W)
  go_enter Tryz.func24, Tryz.ntmps24
  go_wp2_with fail
  with_reducible refine HN.out.mono ?_
  rintro e w1 ⟨rfl, g1⟩
  unfold ndVal ndZero
  go_wp2_with fail
  with_reducible refine (HL.out _).mono ?_
  rintro e w2 ⟨rfl, rfl⟩
  go_wp2_with fail
  go_ret2
  exact ⟨rfl, g1.alloc _⟩
set_option maxRecDepth 20000 in
theorem All_nil19 (w : World) : Calls Tryz.prog 34 #[.pointer none] w fun e w' => e = .returned (.slice none 0 0) ∧ w' = w := by
  go_enter Tryz.func34, Tryz.ntmps34
  go_wp2_with fail
  go_ret
  exact ⟨rfl, rfl⟩
set_option maxRecDepth 20000 in
theorem Copy_nil19 (w : World) : Calls Tryz.prog 12 #[.pointer none] w fun e w' => e = .returned (.pointer none) ∧ w' = w := by
  go_enter Tryz.func12, Tryz.ntmps12
  go_wp2_with fail
  go_ret
  exact ⟨rfl, rfl⟩
end Go.Proofs.YtgleopahldpajaaGreat

/-
  Layer 19 (tree): Inode, Walk over a tree without Links, Set of what is not there, what the document fixes.
-/
namespace Go.Proofs.YtgleopahldpajaaGreat
open Go.RowKit Go.Shelf
set_option linter.unusedVariables false
theorem gr5t {w0 w : World} {b : Nat} {bs : List Nat} (h0 : Gr bs w0 w) (hb : b ∈ bs ∨ w0.heap.size ≤ b) (c0 c1 c2 c3 c4 : Value) :
    Gr bs w0 (((((w.setCell ⟨b, 0, none⟩ c0).setCell ⟨b, 1, none⟩ c1).setCell ⟨b, 2, none⟩ c2).setCell ⟨b, 3, none⟩ c3).setCell ⟨b, 4, none⟩ c4) := by
  have h1 := h0.setCell (p := ⟨b, 0, none⟩) hb c0
  have h2 := h1.setCell (p := ⟨b, 1, none⟩) hb c1
  have h3 := h2.setCell (p := ⟨b, 2, none⟩) hb c2
  have h4 := h3.setCell (p := ⟨b, 3, none⟩) hb c3
  exact h4.setCell (p := ⟨b, 4, none⟩) hb c4
section
variable {w w' w2 : World} {A : TrA} {Z : TrZ} {K : Nat} {g : Int → NdV} {n : Int} {x : NdZ}
set_option maxRecDepth 20000 in
set_option maxHeartbeats 2000000 in
theorem told_any (v : NdV) (b : List (Int × Int)) (w : World) (hb : Sl2 w (.slice v.ao v.n v.cap) b) (hl : b.length ≤ 70000) : Calls Tryz.prog 84 #[ndVal v] w fun e w' => ∃ ao2 cap2, e = .returned (.agg #[.int .u8 v.k, .int .i64 v.l, .int .i64 v.s, .slice ao2 v.n cap2, .string v.t]) ∧ Gr [] w w' := by
  have g1 : Gr [] w (((w.alloc (Obj.cells #[.int .u8 v.k, .int .i64 v.l, .int .i64 v.s, .slice v.ao v.n v.cap, .string v.t, .pointer v.dp, .int .i64 v.up, .int .i64 v.op] 125)).alloc (Obj.cells #[.int .u8 0, .int .i64 0, .int .i64 0, .slice none 0 0, .string ⟨#[]⟩] 42)).alloc (Obj.cells #[.int .u8 v.k, .int .i64 v.l, .int .i64 v.s, .slice v.ao v.n v.cap, .string v.t] 42)) := (((Gr.refl [] w).alloc _).alloc _).alloc _
  have HG := Lib.hid g1
  have HC := Lib.hid (xclone_sl v.ao v.n v.cap b _ (hb.gr0 g1) hl)
  have h2 := (Holds.new (w.alloc (Obj.cells #[.int .u8 v.k, .int .i64 v.l, .int .i64 v.s, .slice v.ao v.n v.cap, .string v.t, .pointer v.dp, .int .i64 v.up, .int .i64 v.op] 125)) #[.int .u8 0, .int .i64 0, .int .i64 0, .slice none 0 0, .string ⟨#[]⟩] 42).alloc (Obj.cells #[.int .u8 v.k, .int .i64 v.l, .int .i64 v.s, .slice v.ao v.n v.cap, .string v.t] 42)
  rw [World.size_alloc] at h2
  have h3 := Holds.new ((w.alloc (Obj.cells #[.int .u8 v.k, .int .i64 v.l, .int .i64 v.s, .slice v.ao v.n v.cap, .string v.t, .pointer v.dp, .int .i64 v.up, .int .i64 v.op] 125)).alloc (Obj.cells #[.int .u8 0, .int .i64 0, .int .i64 0, .slice none 0 0, .string ⟨#[]⟩] 42)) #[.int .u8 v.k, .int .i64 v.l, .int .i64 v.s, .slice v.ao v.n v.cap, .string v.t] 42
  rw [World.size_alloc, World.size_alloc] at h3
  have HX := Lib.hid (And.intro h2 h3)
  unfold ndVal
  clear hb hl g1 h2 h3
  go_enter Tryz.func84, Tryz.ntmps84
  go_wp2_with fail
  with_reducible refine HC.out.mono ?_
  rintro e w1 ⟨ao2, cap2, rfl, _, _, g2⟩
  have h2 := HX.out.1.gr0 g2
  have h3 := HX.out.2.gr0 g2
  have c0 := h2.cell 0
  have f0 := h2.frozen 0
  have c1 := h2.cell 1
  have f1 := h2.frozen 1
  have c2 := h2.cell 2
  have f2 := h2.frozen 2
  have c3 := h2.cell 3
  have f3 := h2.frozen 3
  have c4 := h2.cell 4
  have f4 := h2.frozen 4
  have d0 := h3.cell 0
  have d1 := h3.cell 1
  have d2 := h3.cell 2
  have d3 := h3.cell 3
  have d4 := h3.cell 4
  have e3 := h3.frozen 3
  have HG2 := Lib.hid (HG.out.next0 g2)
  clear g2 h2 h3 HC
  go_wp2_with fail
  exact bodyPost_ret (v := .agg #[.int .u8 v.k, .int .i64 v.l, .int .i64 v.s, .slice ao2 v.n cap2, .string v.t]) (by simp [results, Tryz.results84, go_sem, *]) rfl ⟨ao2, cap2, rfl, gr5t (HG2.out.setCell (p := ⟨w.heap.size + 1 + 1, 3, none⟩) (.inr (by show w.heap.size ≤ w.heap.size + 1 + 1; omega)) _) (.inr (by omega)) _ _ _ _ _⟩
set_option maxRecDepth 20000 in
set_option maxHeartbeats 2000000 in
theorem inode_any19 (h : TrG w A Z K g) (ok : TrO Z.T Z.nm) (n : Int) (hn : WfZ n) (v : NdV) (hv : v = pickV g (getE Z.T n) n) : Calls Tryz.prog 23 #[.pointer (some ⟨A.tb, 0, none⟩), .int .i64 n] w fun e w' => ∃ ao2 cap2, e = .returned (.tuple #[.agg #[.int .u8 v.k, .int .i64 v.l, .int .i64 v.s, .slice ao2 v.n cap2, .string v.t], .int .i64 (getE Z.T n)]) ∧ Gr [] w w' := by
  have g1 : Gr [] w (w.alloc (Obj.cells #[.int .u8 0, .int .i64 0, .int .i64 0, .slice none 0 0, .string ⟨#[]⟩] 42)) := (Gr.refl [] w).alloc _
  have HN := Lib.hid (node_any (h.gr0 g1) n hn)
  have hsl : ∃ b : List (Int × Int), b.length ≤ 70000 ∧ Sl2 w (.slice v.ao v.n v.cap) b := by
    rw [hv]
    cases q : Z.T n with
    | none =>
      have : getE Z.T n ≠ 0 := by unfold getE; rw [q]; decide
      rw [pickV_no this]
      exact ⟨[], by simp, Sl2.nil _⟩
    | some x =>
      have : getE Z.T n = 0 := by unfold getE; rw [q]; rfl
      rw [pickV_ok this]
      refine ⟨x.b, ?_, (h.nd n x q).b⟩
      have := (right_runs (ok.right n x q)).1.1
      omega
  obtain ⟨b, hbl, hb⟩ := hsl
  rw [← hv] at HN
  have HB := Lib.hid (And.intro hbl (hb.gr0 g1))
  have HR := Lib.hid (Holds.new w #[.int .u8 0, .int .i64 0, .int .i64 0, .slice none 0 0, .string ⟨#[]⟩] 42)
  have HG := Lib.hid g1
  generalize getE Z.T n = e0 at *
  clear h ok hn hv hbl hb g1
  go_enter Tryz.func23, Tryz.ntmps23
  go_wp2_with fail
  with_reducible refine HN.out.mono ?_
  rintro e w1 ⟨rfl, g2⟩
  have g3 := g2.alloc (Obj.cells #[.int .u8 v.k, .int .i64 v.l, .int .i64 v.s, .slice v.ao v.n v.cap, .string v.t, .pointer v.dp, .int .i64 v.up, .int .i64 v.op] 125)
  have HT := Lib.hid (told_any v b _ (HB.out.2.gr0 g3) HB.out.1)
  have HR3 := Lib.hid (HR.out.gr0 g3)
  have HG3 := Lib.hid (HG.out.next0 g3)
  have l1 := g2.size
  rw [World.size_alloc] at l1
  unfold ndVal at HT ⊢
  clear g2 g3 HN HB
  go_wp2_with fail
  with_reducible refine HT.out.mono ?_
  rintro e w2 ⟨ao2, cap2, rfl, g4⟩
  have h2 := HR3.out.gr0 g4
  have c0 := h2.cell 0
  have f0 := h2.frozen 0
  have c1 := h2.cell 1
  have f1 := h2.frozen 1
  have c2 := h2.cell 2
  have f2 := h2.frozen 2
  have c3 := h2.cell 3
  have f3 := h2.frozen 3
  have c4 := h2.cell 4
  have f4 := h2.frozen 4
  have HG4 := Lib.hid (HG3.out.next0 g4)
  clear g4 h2 HT
  go_wp2_with fail
  exact bodyPost_ret (v := .tuple #[.agg #[.int .u8 v.k, .int .i64 v.l, .int .i64 v.s, .slice ao2 v.n cap2, .string v.t], .int .i64 e0]) (by simp [results, Tryz.results23, go_sem, *]) rfl ⟨ao2, cap2, rfl, gr5t HG4.out (.inr (Nat.le_refl _)) _ _ _ _ _⟩
set_option maxRecDepth 20000 in
set_option maxHeartbeats 1000000 in
theorem set_none (h : TrG w A Z K g) (n : Int) (hn : WfZ n) (hx : Z.T n = none) (z : Int) (bv : Value) : Calls Tryz.prog 31 #[.pointer (some ⟨A.tb, 0, none⟩), .int .i64 n, .int .i64 z, bv] w fun e w' => e = .returned (.int .i64 13) ∧ Gr [] w w' := by
  have hh := node_any h n hn
  have q1 : getE Z.T n = 13 := by unfold getE; rw [hx]; rfl
  rw [q1, pickV_no (by decide)] at hh
  have HN := Lib.hid hh
  clear h hn hx hh q1
  go_enter Tryz.func31, Tryz.ntmps31
  go_wp2_with fail
  with_reducible refine HN.out.mono ?_
  rintro e w1 ⟨rfl, g1⟩
  unfold ndVal ndZero
  clear HN
  go_wp2_with fail
  go_ret
  exact ⟨rfl, g1.alloc _⟩
set_option maxRecDepth 20000 in
set_option maxHeartbeats 1000000 in
theorem names_none (h : TrG w A Z K g) (n : Int) (hn : WfZ n) (hx : Z.T n = none) : Calls Tryz.prog 24 #[.pointer (some ⟨A.tb, 0, none⟩), .int .i64 n] w fun e w' => e = .returned (.tuple #[.slice none 0 0, .int .i64 13]) ∧ Gr [] w w' := by
  have hh := dir_any h n hn
  have q1 : dirE Z.T n = 13 := by unfold dirE; rw [hx]
  rw [q1, pickV_no (by decide)] at hh
  have HN := Lib.hid hh
  have HL := Lib.hid (fun W => dlist_nil W)
  clear h hn hx hh q1
  go_enter Tryz.func24, Tryz.ntmps24
  go_wp2_with fail
  with_reducible refine HN.out.mono ?_
  rintro e w1 ⟨rfl, g1⟩
  unfold ndVal ndZero
  go_wp2_with fail
  with_reducible refine (HL.out _).mono ?_
  rintro e w2 ⟨rfl, rfl⟩
  go_wp2_with fail
  go_ret2
  exact ⟨rfl, g1.alloc _⟩
set_option maxRecDepth 20000 in
set_option maxHeartbeats 2000000 in
theorem walk_nl (h : TrG w A Z K g) (ok : TrO Z.T Z.nm) (hk : ∀ n x, Z.T n = some x → x.k ≠ 3) (L : List (List UInt8)) (hL : L.length ≤ 1000) (hp : ∀ p ∈ L, p.length ≤ 1000) (ao : Option Addr) (cap : Nat) (hs : SlS w (.slice ao L.length cap) L) (n : Int) (hn : WfZ n) (hx : (Z.T n).isSome = true) (la : Bool) :
    Calls Tryz.prog 21 #[.pointer (some ⟨A.tb, 0, none⟩), .int .i64 n, .agg #[.bool true, .slice ao L.length cap, .bool false], .bool la] w fun e w' => e = .returned (.tuple #[.int .i64 (stepsZ Z.T Z.nm 1 L).1, .int .i64 (stepsZ Z.T Z.nm 1 L).2]) ∧ Gr [] w w' := by
  obtain ⟨m, hm⟩ : ∃ m, m = L.length := ⟨_, rfl⟩
  have g1 : Gr [] w (w.alloc (Obj.cells #[.bool true, .slice ao L.length cap, .bool false] 52)) := (Gr.refl [] w).alloc _
  have hw := Holds.new w #[.bool true, .slice ao L.length cap, .bool false] 52
  have hh := node_any (h.gr0 g1) n hn
  have q1 : getE Z.T n = 0 := by unfold getE; rw [hx]; rfl
  rw [q1, pickV_ok rfl] at hh
  obtain ⟨v, hv⟩ : ∃ v, v = g n := ⟨_, rfl⟩
  rw [← hv] at hh
  have HN := Lib.hid hh
  have HH := Lib.hid (And.intro h (And.intro ok (And.intro hk (And.intro hL (And.intro hp (And.intro hs hm))))))
  have HG := Lib.hid g1
  have HW := Lib.hid hw
  obtain ⟨r, hr⟩ : ∃ r, r = stepsZ Z.T Z.nm 1 L := ⟨_, rfl⟩
  have HRR := Lib.hid hr
  rw [← hr]
  rw [← hm] at HN HG HW ⊢
  clear hr h ok hk hL hp hs hn hx hm g1 hw hh q1 hv
  go_enter Tryz.func21, Tryz.ntmps21
  go_wp2_with fail
  with_reducible refine HN.out.mono ?_
  rintro e w1 ⟨rfl, g2⟩
  have g3 : Gr [] w1 ((w1.alloc (Obj.cells #[.int .u8 v.k, .int .i64 v.l, .int .i64 v.s, .slice v.ao v.n v.cap, .string v.t, .pointer v.dp, .int .i64 v.up, .int .i64 v.op] 125)).alloc (Obj.cells #[.pointer (some ⟨A.tb, 0, none⟩), .bool la, .int .i64 0] 181)) := ((Gr.refl [] w1).alloc _).alloc _
  have gw := HG.out.next0 (g2.trans g3)
  have hk1 := Holds.new (w1.alloc (Obj.cells #[.int .u8 v.k, .int .i64 v.l, .int .i64 v.s, .slice v.ao v.n v.cap, .string v.t, .pointer v.dp, .int .i64 v.up, .int .i64 v.op] 125)) #[.pointer (some ⟨A.tb, 0, none⟩), .bool la, .int .i64 0] 181
  rw [World.size_alloc] at hk1
  have hw3 := (HW.out.gr0 g2).gr0 g3
  have b0 := hw3.cell 0
  have b1 := hw3.cell 1
  have b2 := hw3.cell 2
  have hres := resolve_nl (HH.out.1.gr0 gw) HH.out.2.1 HH.out.2.2.1 L HH.out.2.2.2.1 HH.out.2.2.2.2.1 ao cap (HH.out.2.2.2.2.2.1.gr0 gw) n (w1.heap.size + 1) la hk1
  rw [← HH.out.2.2.2.2.2.2, ← HRR.out] at hres
  have HRS := Lib.hid hres
  have HGW := Lib.hid gw
  unfold ndVal
  clear g2 g3 gw hk1 hw3 hres HN HG HW
  go_wp2_with fail
  with_reducible refine HRS.out.mono ?_
  rintro e w2 ⟨rfl, g4⟩
  have HF := Lib.hid (HGW.out.next0 g4)
  clear g4 HRS b0 b1 b2
  go_wp2_with fail
  go_ret2
  exact ⟨rfl, HF.out⟩
end
end Go.Proofs.YtgleopahldpajaaGreat

/-
  Layer 19 (tree): what the document fixes.
-/
namespace Go.Proofs.YtgleopahldpajaaGreat
open Go.RowKit Go.Shelf
set_option linter.unusedVariables false
/-- The tree of the law's first look. -/
def wakeZ : TrZ := newZ.make 1 ⟨#[97]⟩ 2 (newN 2 0 [] ⟨#[]⟩ 1)
theorem right_dir (l : Nat) (hl : l ≤ 1000) : Right16 2 (l : Int) 0 [] ⟨#[]⟩ := ⟨by omega, by omega, .inr (.inl ⟨rfl, rfl, rfl, rfl⟩)⟩
theorem newZ_T (n : Int) : newZ.T n = if n = 1 then some rootN else none := rfl
theorem newZ_low : IsLow newZ.T 2 := ⟨by omega, by omega, rfl, fun m h1 h2 => by
  obtain rfl : m = 1 := by omega
  rfl⟩
theorem wakeZ_T (n : Int) : wakeZ.T n = if n = 2 then some (newN 2 0 [] ⟨#[]⟩ 1) else if n = 1 then some (rootN.lk 3) else none := by
  show updN (moreT newZ.T 1) 2 (some (newN 2 0 [] ⟨#[]⟩ 1)) n = _
  unfold updN
  by_cases h : n = 2
  · rw [if_pos h, if_pos h]
  · rw [if_neg h, if_neg h]
    show updN newZ.T 1 (some (rootN.lk 3)) n = _
    unfold updN
    by_cases h1 : n = 1
    · rw [if_pos h1, if_pos h1]
    · rw [if_neg h1, if_neg h1, newZ_T, if_neg h1]
theorem wakeZ_ok : TrOk wakeZ.T wakeZ.nm := by
  have h0 := newZ_ok (right_dir 2 (by omega))
  exact h0.make (d := rootN) (n := 1) (s := ⟨#[97]⟩) (of := 2) (y := newN 2 0 [] ⟨#[]⟩ 1) rfl rfl (Nat.le_refl _) (by decide) rfl rfl (by omega) (by omega) (right_dir 2 (by omega)) rfl (fun _ => rfl) (fun _ => by decide)
theorem wakeZ_nums : numsZ wakeZ.T = [1, 2] := by
  have hp : (numsZ wakeZ.T).Perm [1, 2] := (List.perm_ext_iff_of_nodup (numsZ_nd _) (by decide)).2 fun z => by
    rw [mem_numsZ wakeZ_ok.rng, wakeZ_T]
    by_cases h : z = 2
    · simp [h]
    · by_cases h1 : z = 1
      · simp [h1]
      · simp [h, h1]
  exact hp.eq_of_pairwise (le := (· < ·)) (fun a b _ _ h1 h2 => by omega) (numsZ_up _) (by decide)
theorem wake_steps : stepsZ wakeZ.T wakeZ.nm 1 [[97], [46, 46], [97]] = (2, 0) := by
  have d1 : dirE wakeZ.T 1 = 0 := by unfold dirE; rw [wakeZ_T]; rfl
  have hl : lkN wakeZ.nm 1 (bsL [97]) = some 2 := by decide
  have a1 : lookZ wakeZ.T wakeZ.nm 1 [97] = (2, 0) := by
    unfold lookZ
    rw [if_neg (by decide)]
    unfold findZ
    rw [if_pos d1, hl]; rfl
  have a2 : lookZ wakeZ.T wakeZ.nm 2 [46, 46] = (1, 0) := by
    unfold lookZ upZ
    rw [if_pos rfl]
    have : openE wakeZ.T 2 = 0 := by unfold openE; rw [wakeZ_T]; rfl
    rw [if_pos this, wakeZ_T]; rfl
  unfold stepsZ
  rw [a1, if_pos rfl]
  unfold stepsZ
  rw [a2, if_pos rfl]
  unfold stepsZ
  rw [a1, if_pos rfl]
  rfl
theorem wake_way : errP [47, 97, 47, 46, 46, 47, 97] = 0 ∧ wayA [47, 97, 47, 46, 46, 47, 97] = true ∧ wayL [47, 97, 47, 46, 46, 47, 97] = [[97], [46, 46], [97]] ∧ wayD [47, 97, 47, 46, 46, 47, 97] = false := by decide
theorem wake_kind : ∀ n x, wakeZ.T n = some x → x.k ≠ 3 := fun n x hx => by
  rw [wakeZ_T] at hx
  by_cases h : n = 2
  · rw [if_pos h] at hx; injection hx with hx; rw [← hx]; decide
  · rw [if_neg h] at hx
    by_cases h1 : n = 1
    · rw [if_pos h1] at hx; injection hx with hx; rw [← hx]; decide
    · rw [if_neg h1] at hx; cases hx
set_option maxRecDepth 100000 in
set_option maxHeartbeats 4000000 in
theorem wakes19 (w : World) : Calls Tryz.prog 11 #[] w fun e w' => e = .returned (.bool true) ∧ Gr [] w w' := by
  have HN := Lib.hid (new_any w)
  go_enter Tryz.func11, Tryz.ntmps11
  go_wp2_with fail
  with_reducible refine HN.out.mono ?_
  rintro e w1 ⟨A, g, rfl, hT, hlo, g1⟩
  have hT1 := hT
  have HM := Lib.hid (make_ok1 hT (newZ_ok (right_dir 2 (by omega))) 1 (wfZ (by omega) (by omega)) ⟨#[97]⟩ (by decide) 0 0 [] none 0 0 ⟨#[]⟩ (Sl2.nil _) (by decide) (right_dir 2 (by omega)) (by decide) (by omega) (by decide))
  have HG1 := Lib.hid (And.intro hlo g1)
  clear hT hT1 hlo g1 HN
  go_wp2_with fail
  with_reducible refine HM.out.mono ?_
  rintro e w2 ⟨of, rfl, hlow, ⟨g', hT2⟩, g2⟩
  obtain rfl : of = 2 := hlow.uniq newZ_low
  have hT2 : TrG w2 A wakeZ 4 g' := hT2
  have G2 := HG1.out.2.nextN g2 fun b hb => .inr (HG1.out.1 b (List.mem_cons_of_mem _ hb))
  have hi := inode_any19 hT2 wakeZ_ok.toTrO 1 (wfZ (by omega) (by omega)) _ rfl
  have q1 : getE wakeZ.T 1 = 0 := by unfold getE; rw [wakeZ_T]; rfl
  have q3 : (pickV g' (getE wakeZ.T 1) 1).l = 3 := by rw [q1, pickV_ok rfl]; exact (hT2.nd 1 (rootN.lk 3) (by rw [wakeZ_T]; rfl)).l
  rw [q1] at hi q3
  obtain ⟨v, hv⟩ : ∃ v, v = pickV g' 0 1 := ⟨_, rfl⟩
  rw [← hv] at hi q3
  rw [q3] at hi
  have HI := Lib.hid hi
  have HT2 := Lib.hid (And.intro hT2 G2)
  clear hT2 G2 hi q1 q3 g2 hlow HM hv
  go_wp2_with fail
  with_reducible refine HI.out.mono ?_
  rintro e w3 ⟨ao2, cap2, rfl, g3⟩
  have HG3 := Lib.hid (HT2.out.2.next0 g3)
  have HT3 := Lib.hid (HT2.out.1.gr0 g3)
  have hx := Holds.new w3 #[.int .u8 v.k, .int .i64 3, .int .i64 v.s, .slice ao2 v.n cap2, .string v.t] 42
  have HX := Lib.hid hx
  have hp0 := parse_f [47, 97, 47, 46, 46, 47, 97] (w3.alloc (Obj.cells #[.int .u8 v.k, .int .i64 3, .int .i64 v.s, .slice ao2 v.n cap2, .string v.t] 42))
  rw [show bsL [47, 97, 47, 46, 46, 47, 97] = (⟨#[47, 97, 47, 46, 46, 47, 97]⟩ : ByteArray) from rfl] at hp0
  have HP := Lib.hid hp0
  clear g3 hx HI HT2 hp0
  go_wp2_with fail
  refine HP.out.mono ?_
  rintro e w4 ⟨ao3, cap3, rfl, hsl, g4, _⟩
  obtain ⟨p1, p2, p3, p4⟩ := wake_way
  rw [p1, p2, p3, p4]
  rw [p3] at hsl
  have G4 := ((Gr.refl [] w3).alloc (Obj.cells #[.int .u8 v.k, .int .i64 3, .int .i64 v.s, .slice ao2 v.n cap2, .string v.t] 42)).next0 g4
  have gw : Gr [] w4 (w4.alloc (Obj.cells #[.bool true, .slice ao3 3 cap3, .bool false] 52)) := (Gr.refl [] w4).alloc _
  have hT5 := (HT3.out.gr0 G4).gr0 gw
  have hw := walk_nl hT5 wakeZ_ok.toTrO wake_kind [[97], [46, 46], [97]] (by decide) (by decide) ao3 cap3 (hsl.gr0 gw) 1 (wfZ (by omega) (by omega)) (by rw [wakeZ_T]; rfl) true
  rw [wake_steps, show ([[97], [46, 46], [97]] : List (List UInt8)).length = 3 from rfl] at hw
  have HWK := Lib.hid hw
  have HT5 := Lib.hid (And.intro hT5 ((HG3.out.next0 G4).next0 gw))
  have HX5 := Lib.hid (((HX.out.gr0 g4)).gr0 gw)
  clear hsl G4 gw hT5 hw g4 HP HT3 HG3 HX p1 p2 p3 p4
  go_wp2_with fail
  with_reducible refine HWK.out.mono ?_
  rintro e w6 ⟨rfl, g6⟩
  have hT6 := HT5.out.1.gr0 g6
  have x1 := (HX5.out.gr0 g6).cell 1
  have x1 : w6.cell? ⟨w3.heap.size, 1, none⟩ = some (.int .i64 3) := by rw [x1]; rfl
  have HLN := Lib.hid (tlen_any hT6 wakeZ_ok.toTrO)
  have e2 : lenZ wakeZ.T = 2 := by unfold lenZ; rw [wakeZ_nums]; rfl
  rw [e2] at HLN
  have HDD := Lib.hid (deeds_any hT6 wakeZ_ok.toTrO (by omega))
  have HG6 := Lib.hid (HT5.out.2.next0 g6)
  have HLO := Lib.hid HG1.out.1
  clear hT6 e2 g6 HWK HT5 HX5 HG1
  go_wp2_with fail
  with_reducible refine HLN.out.mono ?_
  rintro e w7 ⟨rfl, rfl⟩
  go_wp2_with fail
  with_reducible refine HDD.out.mono ?_
  rintro e w8 ⟨v8, Ls, Li, rfl, h1, h2, h3, h4, h5, h6, h7, h8, g8⟩
  have hls : Ls.length = 1 := by
    have hp : Ls.Perm [((1 : Int), (⟨#[97]⟩ : ByteArray))] := (List.perm_ext_iff_of_nodup h1 (by simp)).2 fun p => by
      rw [List.mem_singleton]
      constructor
      · intro hp
        obtain ⟨a1, a2⟩ := h4 p hp
        have := (h3 p a1 a2).1 hp
        have this : (decide (p.1 = 1) && decide (p.2 = ⟨#[97]⟩) || false) = true := this
        simp at this
        exact Prod.ext this.1 this.2
      · rintro rfl
        exact (h3 _ (wfZ (by decide) (by decide)) (by decide)).2 rfl
    rw [hp.length_eq]; rfl
  have hli : Li.length = 2 := by
    have hp : Li.Perm [1, 2] := (List.perm_ext_iff_of_nodup (h5.imp fun h => by omega) (by decide)).2 fun z => by
      rw [h6]
      show WfZ z ∧ (decide (z = 2) || (decide (z = 1) || false)) = true ↔ _
      constructor
      · rintro ⟨_, q⟩
        simp at q
        rcases q with rfl | rfl <;> simp
      · intro q
        simp at q
        rcases q with rfl | rfl
        · exact ⟨wfZ (by decide) (by decide), rfl⟩
        · exact ⟨wfZ (by decide) (by decide), rfl⟩
    rw [hp.length_eq]; rfl
  rw [hls, hli] at h7
  obtain ⟨va, vc, rfl⟩ := own_shp h7
  have HF := Lib.hid (HG6.out.nextN g8 fun b hb => .inr (HLO.out b (List.mem_cons_of_mem _ hb)))
  clear h1 h2 h3 h4 h5 h6 h7 h8 g8 hls hli HDD HLN
  go_wp2_with fail
  go_ret
  exact ⟨rfl, HF.out⟩
end Go.Proofs.YtgleopahldpajaaGreat
