/-
  Layer 7: what a region refuses: no such line, no such word, no such length.
-/
import Derived.Test.YtjbhallhmnahbaaGreatPiAu

namespace Go.Proofs.YtjbhallhmnahbaaGreat
open Go.RowKit
set_option linter.unusedVariables false

section
variable {w w' : World} {kb : Nat} {q : BkA} {a : DevA} {P : PlanR} {B : BkS} {m j c : Nat}
theorem rfind_out (i : Int) (h : RgIs w kb q a P B m j c) (hi : i < 0 ∨ (P.l : Int) ≤ i) : Calls Tryz.prog 127 #[.pointer (some ⟨kb, 0, none⟩), .int .i64 i] w fun e w' => e = .returned (.int .i64 3) ∧ w' = w := by
  have c1 := h.c1
  clear h
  by_cases ik : i < 0
  · clear hi
    go_enter Tryz.func127, Tryz.ntmps127
    go_wp2_with fail
    go_ret
    exact ⟨rfl, rfl⟩
  · have ik2 : (P.l : Int) ≤ i := by omega
    clear hi
    go_enter Tryz.func127, Tryz.ntmps127
    go_wp2_with fail
    go_ret
    exact ⟨rfl, rfl⟩
theorem change_out (i : Int) (fv : Value) (h : RgIs w kb q a P B m j c) (hi : i < 0 ∨ (P.l : Int) ≤ i) : Calls Tryz.prog 113 #[.pointer (some ⟨kb, 0, none⟩), .int .i64 i, fv] w fun e w' => e = .returned (.int .i64 3) ∧ w' = w := by
  have HF := Lib.hid (rfind_out i h hi)
  clear h hi
  go_enter Tryz.func113, Tryz.ntmps113
  go_wp2_with fail
  refine HF.out.mono ?_
  rintro e w1 ⟨rfl, rfl⟩
  go_wp2_with fail
  go_ret
  exact ⟨rfl, rfl⟩
set_option maxRecDepth 100000 in
theorem rgwrite_out (i : Int) (s : ByteArray) (h : RgIs w kb q a P B m j c) (hs : s.size = 64) (hi : i < 0 ∨ (P.l : Int) ≤ i) : Calls Tryz.prog 60 #[.pointer (some ⟨kb, 0, none⟩), .int .i64 i, .string s] w fun e w' => e = .returned (.int .i64 3) ∧ Gr [] w w' := by
  have g1 := ((Gr.refl [] w).alloc (Obj.cells #[.pointer (some ⟨kb, 0, none⟩)] 122)).alloc (Obj.cells #[.string s] 9)
  have HG := Lib.hid g1
  have HC := Lib.hid (fun fv => change_out i fv (h.gr0 g1) hi)
  clear h hi g1
  go_enter Tryz.func60, Tryz.ntmps60
  go_wp2_with fail
  refine (HC.out _).mono ?_
  rintro e w1 ⟨rfl, rfl⟩
  go_wp2_with fail
  go_ret
  exact ⟨rfl, HG.out⟩
end
end Go.Proofs.YtjbhallhmnahbaaGreat
