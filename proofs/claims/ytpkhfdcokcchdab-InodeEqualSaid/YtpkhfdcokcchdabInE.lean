/-
  Layer 16: what each law first looks at; InodeNeeds.
-/
import Derived.Test.YtpkhfdcokcchdabInD
namespace Go.Proofs.Ytpkhfdcokcchdab
open Go.RowKit

theorem iparse_lit (w : World) :
    Calls Try.prog 21 #[.string ⟨#[1, 0, 2, 2, 0, 0, 0, 0, 0]⟩] w fun e w' => e = .returned (.tuple #[.int .i64 1, .agg #[.int .u8 2, .int .i64 2, .int .i64 0, .slice none 0 0, .string ⟨#[]⟩], .int .i64 0]) ∧ Gr [] w w' := iparse_dir D9 w rfl
theorem itext_lit (w : World) : Calls Try.prog 16 #[.agg #[.int .u8 2, .int .i64 2, .int .i64 0, .slice none 0 0, .string ⟨#[]⟩], .int .i64 1] w fun e w' => e = .returned (.string ⟨#[1, 0, 2, 2, 0, 0, 0, 0, 0]⟩) ∧ Gr [] w w' := itext_dir w

/-- The boxes. -/
structure IBox (w W : World) (b1 bx : Nat) : Prop where
  d : Holds W b1 #[.int .u8 2, .int .i64 2, .int .i64 0, .slice none 0 0, .string ⟨#[]⟩] 31
  x : Holds W bx #[.int .u8 2, .int .i64 2, .int .i64 0, .slice none 0 0, .string ⟨#[]⟩] 31
  l : Holds W (bx + 1) #[.int .i64 3, .int .i64 2] 72
  f : Holds W (bx + 2) #[.int .u8 1, .int .i64 0, .int .i64 65, .slice (some ⟨bx + 1, 0, none⟩) 1 1, .string ⟨#[]⟩] 31
  g : Gr [] w W
theorem IBox.gr0 {w W W' : World} {b1 bx : Nat} (h : IBox w W b1 bx) (g : Gr [] W W') : IBox w W' b1 bx := ⟨h.d.gr0 g, h.x.gr0 g, h.l.gr0 g, h.f.gr0 g, h.g.next0 g⟩

set_option maxHeartbeats 4000000 in
set_option maxRecDepth 20000 in
theorem wakes16_any (w : World) : Calls Try.prog 18 #[] w fun e w' => e = .returned (.bool true) ∧ Gr [] w w' := by
  have HG := Lib.hid ((Gr.refl [] w).alloc (Obj.cells #[.int .u8 2, .int .i64 2, .int .i64 0, .slice none 0 0, .string ⟨#[]⟩] 31))
  have HI := Lib.hid (Holds.new w #[.int .u8 2, .int .i64 2, .int .i64 0, .slice none 0 0, .string ⟨#[]⟩] 31)
  go_enter Try.func18, Try.ntmps18
  go_wp2_with fail
  with_reducible refine (iparse_lit _).mono ?_
  rintro e w1 ⟨rfl, g1⟩
  have HG1 := Lib.hid (HG.out.next0 g1)
  have HI1 := Lib.hid (HI.out.gr0 g1)
  clear g1 HG HI
  obtain ⟨b1, hb1⟩ : ∃ b, w.heap.size = b := ⟨_, rfl⟩
  rw [hb1] at HI1 ⊢
  clear hb1
  have B5 : IBox w (((w1.alloc (Obj.cells #[.int .u8 2, .int .i64 2, .int .i64 0, .slice none 0 0, .string ⟨#[]⟩] 31)).alloc (Obj.cells #[.int .i64 3, .int .i64 2] 72)).alloc (Obj.cells #[.int .u8 1, .int .i64 0, .int .i64 65, .slice (some ⟨w1.heap.size + 1, 0, none⟩) 1 1, .string ⟨#[]⟩] 31)) b1 w1.heap.size := by
    refine ⟨((HI1.out.alloc _).alloc _).alloc _, ((Holds.new w1 _ _).alloc _).alloc _, ?_, ?_, ((HG1.out.alloc _).alloc _).alloc _⟩
    · have := (Holds.new (w1.alloc (Obj.cells #[.int .u8 2, .int .i64 2, .int .i64 0, .slice none 0 0, .string ⟨#[]⟩] 31)) #[.int .i64 3, .int .i64 2] 72).alloc (Obj.cells #[.int .u8 1, .int .i64 0, .int .i64 65, .slice (some ⟨w1.heap.size + 1, 0, none⟩) 1 1, .string ⟨#[]⟩] 31)
      rwa [World.size_alloc] at this
    · have := Holds.new ((w1.alloc (Obj.cells #[.int .u8 2, .int .i64 2, .int .i64 0, .slice none 0 0, .string ⟨#[]⟩] 31)).alloc (Obj.cells #[.int .i64 3, .int .i64 2] 72)) #[.int .u8 1, .int .i64 0, .int .i64 65, .slice (some ⟨w1.heap.size + 1, 0, none⟩) 1 1, .string ⟨#[]⟩] 31
      rwa [World.size_alloc, World.size_alloc] at this
  have HB5 := Lib.hid B5
  clear B5 HI1 HG1
  have d0 := HB5.out.d.cell 0
  have d1 := HB5.out.d.cell 1
  have d2 := HB5.out.d.cell 2
  have d3 := HB5.out.d.cell 3
  have d4 := HB5.out.d.cell 4
  have x0 := HB5.out.x.cell 0
  have x1 := HB5.out.x.cell 1
  have x2 := HB5.out.x.cell 2
  have x3 := HB5.out.x.cell 3
  have x4 := HB5.out.x.cell 4
  have l0 := HB5.out.l.cell 0
  have l1 := HB5.out.l.cell 1
  have y0 := HB5.out.f.cell 0
  have y1 := HB5.out.f.cell 1
  have y2 := HB5.out.f.cell 2
  have y3 := HB5.out.f.cell 3
  have y4 := HB5.out.f.cell 4
  go_wp2_with fail
  obtain ⟨bx, hbx⟩ : ∃ b, w1.heap.size = b := ⟨_, rfl⟩
  rw [hbx] at HB5 ⊢
  clear hbx
  with_reducible refine (iright_dir _).mono ?_
  rintro e w6 ⟨rfl, g6⟩
  have HB6 := Lib.hid (HB5.out.gr0 g6)
  clear g6 d0 d1 d2 d3 d4 x0 x1 x2 x3 x4 l0 l1 y0 y1 y2 y3 y4 HB5
  have d0 := HB6.out.d.cell 0
  have d1 := HB6.out.d.cell 1
  have d2 := HB6.out.d.cell 2
  have d3 := HB6.out.d.cell 3
  have d4 := HB6.out.d.cell 4
  have x0 := HB6.out.x.cell 0
  have x1 := HB6.out.x.cell 1
  have x2 := HB6.out.x.cell 2
  have x3 := HB6.out.x.cell 3
  have x4 := HB6.out.x.cell 4
  have l0 := HB6.out.l.cell 0
  have l1 := HB6.out.l.cell 1
  have y0 := HB6.out.f.cell 0
  have y1 := HB6.out.f.cell 1
  have y2 := HB6.out.f.cell 2
  have y3 := HB6.out.f.cell 3
  have y4 := HB6.out.f.cell 4
  go_wp2_with fail
  with_reducible refine (itext_lit _).mono ?_
  rintro e w7 ⟨rfl, g7⟩
  have HB7 := Lib.hid (HB6.out.gr0 g7)
  clear g7 d0 d1 d2 d3 d4 x0 x1 x2 x3 x4 l0 l1 y0 y1 y2 y3 y4 HB6
  have d0 := HB7.out.d.cell 0
  have d1 := HB7.out.d.cell 1
  have d2 := HB7.out.d.cell 2
  have d3 := HB7.out.d.cell 3
  have d4 := HB7.out.d.cell 4
  have x0 := HB7.out.x.cell 0
  have x1 := HB7.out.x.cell 1
  have x2 := HB7.out.x.cell 2
  have x3 := HB7.out.x.cell 3
  have x4 := HB7.out.x.cell 4
  have l0 := HB7.out.l.cell 0
  have l1 := HB7.out.l.cell 1
  have y0 := HB7.out.f.cell 0
  have y1 := HB7.out.f.cell 1
  have y2 := HB7.out.f.cell 2
  have y3 := HB7.out.f.cell 3
  have y4 := HB7.out.f.cell 4
  go_wp2_with fail
  with_reducible refine (iequal_dir _).mono ?_
  rintro e w8 ⟨rfl, g8⟩
  have HB8 := Lib.hid (HB7.out.gr0 g8)
  clear g8 d0 d1 d2 d3 d4 x0 x1 x2 x3 x4 l0 l1 y0 y1 y2 y3 y4 HB7
  have d0 := HB8.out.d.cell 0
  have d1 := HB8.out.d.cell 1
  have d2 := HB8.out.d.cell 2
  have d3 := HB8.out.d.cell 3
  have d4 := HB8.out.d.cell 4
  have x0 := HB8.out.x.cell 0
  have x1 := HB8.out.x.cell 1
  have x2 := HB8.out.x.cell 2
  have x3 := HB8.out.x.cell 3
  have x4 := HB8.out.x.cell 4
  have l0 := HB8.out.l.cell 0
  have l1 := HB8.out.l.cell 1
  have y0 := HB8.out.f.cell 0
  have y1 := HB8.out.f.cell 1
  have y2 := HB8.out.f.cell 2
  have y3 := HB8.out.f.cell 3
  have y4 := HB8.out.f.cell 4
  go_wp2_with fail
  with_reducible refine (iright_file _ _ l0 l1).mono ?_
  rintro e w9 ⟨rfl, g9⟩
  have HB9 := Lib.hid (HB8.out.gr0 g9)
  clear g9 d0 d1 d2 d3 d4 x0 x1 x2 x3 x4 l0 l1 y0 y1 y2 y3 y4 HB8
  have d0 := HB9.out.d.cell 0
  have d1 := HB9.out.d.cell 1
  have d2 := HB9.out.d.cell 2
  have d3 := HB9.out.d.cell 3
  have d4 := HB9.out.d.cell 4
  have x0 := HB9.out.x.cell 0
  have x1 := HB9.out.x.cell 1
  have x2 := HB9.out.x.cell 2
  have x3 := HB9.out.x.cell 3
  have x4 := HB9.out.x.cell 4
  have l0 := HB9.out.l.cell 0
  have l1 := HB9.out.l.cell 1
  have y0 := HB9.out.f.cell 0
  have y1 := HB9.out.f.cell 1
  have y2 := HB9.out.f.cell 2
  have y3 := HB9.out.f.cell 3
  have y4 := HB9.out.f.cell 4
  go_wp2_with fail
  with_reducible refine (need_65 _).mono ?_
  rintro e w10 ⟨rfl, g10⟩
  have HB10 := Lib.hid (HB9.out.gr0 g10)
  clear g10 d0 d1 d2 d3 d4 x0 x1 x2 x3 x4 l0 l1 y0 y1 y2 y3 y4 HB9
  have d0 := HB10.out.d.cell 0
  have d1 := HB10.out.d.cell 1
  have d2 := HB10.out.d.cell 2
  have d3 := HB10.out.d.cell 3
  have d4 := HB10.out.d.cell 4
  have x0 := HB10.out.x.cell 0
  have x1 := HB10.out.x.cell 1
  have x2 := HB10.out.x.cell 2
  have x3 := HB10.out.x.cell 3
  have x4 := HB10.out.x.cell 4
  have l0 := HB10.out.l.cell 0
  have l1 := HB10.out.l.cell 1
  have y0 := HB10.out.f.cell 0
  have y1 := HB10.out.f.cell 1
  have y2 := HB10.out.f.cell 2
  have y3 := HB10.out.f.cell 3
  have y4 := HB10.out.f.cell 4
  go_wp2_with fail
  go_ret
  exact ⟨rfl, HB10.out.g⟩

end Go.Proofs.Ytpkhfdcokcchdab
