/-
  Layer 16: Parse of a directory's bytes; what each law first looks at; InodeNeeds.
-/
import Derived.Test.YtpkhfdcokcchdabInC
namespace Go.Proofs.Ytpkhfdcokcchdab
open Go.RowKit

theorem get_lit (x : ByteArray) (n : Nat) (w : World) (hx : x.size ≤ maxLen) (hn : getL (x.data.toList.take 8) = n) :
    Calls Try.prog 41 #[.string x] w fun e w' => e = .returned (.int .u64 n) ∧ w' = w := by
  subst hn
  exact (get_any x w hx).mono fun _ _ ⟨h1, h2⟩ => ⟨h1, h2.symm⟩
set_option maxHeartbeats 4000000 in
set_option maxRecDepth 20000 in
theorem iparse_dir (S : ByteArray) (w : World) (hS : S = D9) :
    Calls Try.prog 21 #[.string S] w fun e w' => e = .returned (.tuple #[.int .i64 1, .agg #[.int .u8 2, .int .i64 2, .int .i64 0, .slice none 0 0, .string ⟨#[]⟩], .int .i64 0]) ∧ Gr [] w w' := by
  have hs : S.size = 9 := by rw [hS]; rfl
  have h2 : 2 < S.size := by omega
  have hk : S[2].toNat = 2 := by subst hS; rfl
  have G1 := Lib.hid (fun W => get_lit (S.extract 3 5) 2 W (by rw [ByteArray.size_extract]; unfold maxLen; omega) (by subst hS; rfl))
  have G2 := Lib.hid (fun W => get_lit (S.extract 5 9) 0 W (by rw [ByteArray.size_extract]; unfold maxLen; omega) (by subst hS; rfl))
  have G3 := Lib.hid (fun W => get_lit (S.extract 0 2) 1 W (by rw [ByteArray.size_extract]; unfold maxLen; omega) (by subst hS; rfl))
  have htx : (D9.toList == S.toList) = true := by subst hS; simp
  have i2 : (2 : Int) < (S.size : Int) := by omega
  have u0 : IntKind.i64.wrap 0 = 0 := rfl
  have u1 : IntKind.i64.wrap 1 = 1 := rfl
  have u2 : IntKind.i64.wrap 2 = 2 := rfl
  clear hS
  have HR := Lib.hid (((Holds.new w #[.int .u8 0, .int .i64 0, .int .i64 0, .slice none 0 0, .string ⟨#[]⟩] 31).alloc (Obj.cells #[.int .u8 2, .int .i64 2, .int .i64 0, .slice none 0 0, .string ⟨#[]⟩] 31)).drew)
  have hx := (Holds.new (w.alloc (Obj.cells #[.int .u8 0, .int .i64 0, .int .i64 0, .slice none 0 0, .string ⟨#[]⟩] 31)) #[.int .u8 2, .int .i64 2, .int .i64 0, .slice none 0 0, .string ⟨#[]⟩] 31).drew
  rw [World.size_alloc] at hx
  have HX := Lib.hid hx
  have HG := Lib.hid ((((Gr.refl [] w).alloc (Obj.cells #[.int .u8 0, .int .i64 0, .int .i64 0, .slice none 0 0, .string ⟨#[]⟩] 31)).alloc (Obj.cells #[.int .u8 2, .int .i64 2, .int .i64 0, .slice none 0 0, .string ⟨#[]⟩] 31)).drew)
  clear hx
  go_enter Try.func21, Try.ntmps21
  go_wp2_with fail
  go_region_held3 (fun _ : World => True) (trivial) ((first
    | (go_at_call 41; (with_reducible refine (G1.out _).mono ?_); rintro r w10 ⟨rfl, rfl⟩)
    | (go_at_call 41; (with_reducible refine (G2.out _).mono ?_); rintro r w10 ⟨rfl, rfl⟩)))
  all_goals
    generalize ((w.alloc (Obj.cells #[.int .u8 0, .int .i64 0, .int .i64 0, .slice none 0 0, .string ⟨#[]⟩] 31)).alloc (Obj.cells #[.int .u8 2, .int .i64 2, .int .i64 0, .slice none 0 0, .string ⟨#[]⟩] 31)).drew = wz at *
    have x0 := HX.out.cell 0
    have x1 := HX.out.cell 1
    have x2 := HX.out.cell 2
    have x3 := HX.out.cell 3
    have x4 := HX.out.cell 4
    go_wp2_with fail
    with_reducible refine (G3.out _).mono ?_
    rintro r w10 ⟨rfl, rfl⟩
    go_wp2_with fail
    with_reducible refine (itext_dir _).mono ?_
    rintro r w11 ⟨rfl, g11⟩
    have HG2 := Lib.hid (HG.out.next0 g11)
    have HR2 := Lib.hid (HR.out.gr0 g11)
    have HX2 := Lib.hid (HX.out.gr0 g11)
    clear x0 x1 x2 x3 x4 g11
    have x0 := HX2.out.cell 0
    have x1 := HX2.out.cell 1
    have x2 := HX2.out.cell 2
    have x3 := HX2.out.cell 3
    have x4 := HX2.out.cell 4
    go_wp2_with fail
    have r0 := HR2.out.cell 0
    have r1 := HR2.out.cell 1
    have r2 := HR2.out.cell 2
    have r3 := HR2.out.cell 3
    have r4 := HR2.out.cell 4
    have f0 := HR2.out.frozen 0
    have f1 := HR2.out.frozen 1
    have f2 := HR2.out.frozen 2
    have f3 := HR2.out.frozen 3
    have f4 := HR2.out.frozen 4
    go_region
    all_goals
      go_wp2_with fail
      refine bodyPost_ret (v := .tuple #[.int .i64 1, .agg #[.int .u8 2, .int .i64 2, .int .i64 0, .slice none 0 0, .string ⟨#[]⟩], .int .i64 0]) (by simp [results, Try.results21, go_sem, *]) rfl ⟨rfl, ?_⟩
      exact (((((HG2.out.setCell (p := ⟨w.heap.size, 0, none⟩) (.inr (Nat.le_refl _)) _).setCell (p := ⟨w.heap.size, 1, none⟩) (.inr (Nat.le_refl _)) _).setCell (p := ⟨w.heap.size, 2, none⟩) (.inr (Nat.le_refl _)) _).setCell (p := ⟨w.heap.size, 3, none⟩) (.inr (Nat.le_refl _)) _).setCell (p := ⟨w.heap.size, 4, none⟩) (.inr (Nat.le_refl _)) _).drew

end Go.Proofs.Ytpkhfdcokcchdab
