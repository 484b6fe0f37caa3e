/-
  What layer 8's statements ask of the document's own numbers: wakes.
-/
import Derived.Test.YtdpkjbjnjkoeaaaFeiN
namespace Go.Proofs.Ytdpkjbjnjkoeaaa
open Go.RowKit

theorem k4 (a b c d : Nat) (ha : a < 65536) (hb : b < 65536) (hc : c < 65536) (hd : d < 65536) : keys4 a b c d := by
  intro k hk
  simp only [List.mem_cons, List.not_mem_nil, or_false] at hk
  omega
theorem wk_newA (w : World) : Calls Try.prog 12 #[.int .i64 1, .int .u64 99] w fun e w' =>
    e = .returned (.tuple #[.agg #[.int .i64 1, .int .i64 1, .int .u16 99, .int .u16 0, .int .u16 0, .int .u16 0], .int .i64 0]) ∧ Below w.heap.size w w' :=
  (new_yes 1 99 w (by omega) (by omega) (by omega)).mono fun _ _ ⟨he, hb⟩ => ⟨he.trans rfl, hb⟩
theorem wk_newB (w : World) : Calls Try.prog 12 #[.int .i64 100, .int .u64 81985529216486895] w fun e w' =>
    e = .returned (.tuple #[.agg #[.int .i64 100, .int .i64 4, .int .u16 52719, .int .u16 35243, .int .u16 17767, .int .u16 291], .int .i64 0]) ∧ Below w.heap.size w w' :=
  (new_yes 100 81985529216486895 w (by omega) (by omega) (by omega)).mono fun _ _ ⟨he, hb⟩ => ⟨he.trans rfl, hb⟩
theorem wk_toA (w : World) : Calls Try.prog 13 #[.agg #[.int .i64 1, .int .i64 1, .int .u16 99, .int .u16 0, .int .u16 0, .int .u16 0], .int .i64 0] w fun e w' => e = .returned (.int .i64 0) ∧ Below w.heap.size w w' :=
  to_yes 1 1 99 0 0 0 0 0 w (by omega) (by omega) (k4 _ _ _ _ (by omega) (by omega) (by omega) (by omega)) (by omega) (by omega) (by omega) ⟨1, by omega, by decide +kernel, by omega, fun s _ _ => by omega⟩
theorem wk_toB (w : World) : Calls Try.prog 13 #[.agg #[.int .i64 100, .int .i64 4, .int .u16 52719, .int .u16 35243, .int .u16 17767, .int .u16 291], .int .i64 42] w fun e w' => e = .returned (.int .i64 75) ∧ Below w.heap.size w w' :=
  to_yes 100 4 52719 35243 17767 291 42 75 w (by omega) (by omega) (k4 _ _ _ _ (by omega) (by omega) (by omega) (by omega)) (by omega) (by omega) (by omega) ⟨1, by omega, by decide +kernel, by omega, fun s _ _ => by omega⟩
theorem wk_fromB (w : World) : Calls Try.prog 15 #[.agg #[.int .i64 100, .int .i64 4, .int .u16 52719, .int .u16 35243, .int .u16 17767, .int .u16 291], .int .i64 75] w fun e w' => e = .returned (.int .i64 42) ∧ Below w.heap.size w w' :=
  from_yes 100 4 52719 35243 17767 291 75 42 w (by omega) (by omega) (k4 _ _ _ _ (by omega) (by omega) (by omega) (by omega)) (by omega) (by omega) (by omega) ⟨1, by omega, by decide +kernel, by omega, fun s _ _ => by omega⟩
theorem wk_to100 (w : World) : Calls Try.prog 13 #[.agg #[.int .i64 100, .int .i64 4, .int .u16 52719, .int .u16 35243, .int .u16 17767, .int .u16 291], .int .i64 100] w fun e w' => e = .returned (.int .i64 (-1)) ∧ Below w.heap.size w w' :=
  to_no 100 4 52719 35243 17767 291 100 w (by omega)

def InvWk (w : World) (p q : Nat) (W : World) : Prop :=
  Holds W p #[.int .i64 1, .int .i64 1, .int .u16 99, .int .u16 0, .int .u16 0, .int .u16 0] 27 ∧ Holds W q #[.int .i64 100, .int .i64 4, .int .u16 52719, .int .u16 35243, .int .u16 17767, .int .u16 291] 27 ∧ Below w.heap.size w W
theorem InvWk.next {w : World} {p q : Nat} {W W1 : World} (h : InvWk w p q W) (hb : Below W.heap.size W W1) : InvWk w p q W1 := ⟨h.1.below hb, h.2.1.below hb, Below_nx h.2.2 hb⟩

set_option maxHeartbeats 4000000 in
set_option maxRecDepth 100000 in
theorem wakes8_any (w : World) :
    Calls Try.prog 17 #[] w fun e w' => e = .returned (.bool true) ∧ Below w.heap.size w w' := by
  go_enter Try.func17, Try.ntmps17
  go_wp2_with fail
  refine (wk_newA _).mono ?_
  rintro e w1 ⟨rfl, hb1⟩
  have X1 := Holds.new w1 #[.int .i64 1, .int .i64 1, .int .u16 99, .int .u16 0, .int .u16 0, .int .u16 0] 27
  have B1 := below_new hb1 (Obj.cells #[.int .i64 1, .int .i64 1, .int .u16 99, .int .u16 0, .int .u16 0, .int .u16 0] 27)
  clear hb1
  go_wp2_with fail
  generalize w1.alloc (Obj.cells #[.int .i64 1, .int .i64 1, .int .u16 99, .int .u16 0, .int .u16 0, .int .u16 0] 27) = wa at *
  generalize w1.heap.size = p at *
  refine (wk_newB _).mono ?_
  rintro e w2 ⟨rfl, hb2⟩
  have X3 := (X1.below hb2).alloc (Obj.cells #[.int .i64 100, .int .i64 4, .int .u16 52719, .int .u16 35243, .int .u16 17767, .int .u16 291] 27)
  have X2 := Holds.new w2 #[.int .i64 100, .int .i64 4, .int .u16 52719, .int .u16 35243, .int .u16 17767, .int .u16 291] 27
  have B2 := below_new (below_next B1 hb2) (Obj.cells #[.int .i64 100, .int .i64 4, .int .u16 52719, .int .u16 35243, .int .u16 17767, .int .u16 291] 27)
  clear hb2 X1 B1
  go_wp2_with fail
  generalize w2.alloc (Obj.cells #[.int .i64 100, .int .i64 4, .int .u16 52719, .int .u16 35243, .int .u16 17767, .int .u16 291] 27) = wb at *
  generalize w2.heap.size = q at *
  have I0 : InvWk w p q wb := ⟨X3, X2, B2⟩
  clear X3 X2 B2
  have hne : Nonempty (Cls (InvWk w p q)) := ⟨⟨wb, I0⟩⟩
  have p0 : ∀ x : Cls (InvWk w p q), x.w.cell? ⟨p, 0, none⟩ = some (.int .i64 1) := fun x => x.h.1.cell 0
  have p1 : ∀ x : Cls (InvWk w p q), x.w.cell? ⟨p, 1, none⟩ = some (.int .i64 1) := fun x => x.h.1.cell 1
  have p2 : ∀ x : Cls (InvWk w p q), x.w.cell? ⟨p, 2, none⟩ = some (.int .u16 99) := fun x => x.h.1.cell 2
  have p3 : ∀ x : Cls (InvWk w p q), x.w.cell? ⟨p, 3, none⟩ = some (.int .u16 0) := fun x => x.h.1.cell 3
  have p4 : ∀ x : Cls (InvWk w p q), x.w.cell? ⟨p, 4, none⟩ = some (.int .u16 0) := fun x => x.h.1.cell 4
  have p5 : ∀ x : Cls (InvWk w p q), x.w.cell? ⟨p, 5, none⟩ = some (.int .u16 0) := fun x => x.h.1.cell 5
  have q0 : ∀ x : Cls (InvWk w p q), x.w.cell? ⟨q, 0, none⟩ = some (.int .i64 100) := fun x => x.h.2.1.cell 0
  have q1 : ∀ x : Cls (InvWk w p q), x.w.cell? ⟨q, 1, none⟩ = some (.int .i64 4) := fun x => x.h.2.1.cell 1
  have q2 : ∀ x : Cls (InvWk w p q), x.w.cell? ⟨q, 2, none⟩ = some (.int .u16 52719) := fun x => x.h.2.1.cell 2
  have q3 : ∀ x : Cls (InvWk w p q), x.w.cell? ⟨q, 3, none⟩ = some (.int .u16 35243) := fun x => x.h.2.1.cell 3
  have q4 : ∀ x : Cls (InvWk w p q), x.w.cell? ⟨q, 4, none⟩ = some (.int .u16 17767) := fun x => x.h.2.1.cell 4
  have q5 : ∀ x : Cls (InvWk w p q), x.w.cell? ⟨q, 5, none⟩ = some (.int .u16 291) := fun x => x.h.2.1.cell 5
  refine wp_region_cls (InvWk w p q) (by kernel_rfl) (by kernel_rfl) ⟨I0.1.drew, I0.2.1.drew, I0.2.2.drew⟩ ?_
  clear I0
  repeat (quiet_step ((rename_i x; first
    | exact cls_call x (wk_toA _) fun w' hb => x.h.next hb
    | exact cls_call x (size_any 1 1 99 0 0 0 _) fun w' hb => x.h.next hb
    | exact cls_call x (size_any 100 4 52719 35243 17767 291 _) fun w' hb => x.h.next hb
    | exact cls_call x (wk_toB _) fun w' hb => x.h.next hb
    | exact cls_call x (wk_fromB _) fun w' hb => x.h.next hb
    | exact cls_call x (wk_to100 _) fun w' hb => x.h.next hb)))
  refine wpQuiet_nil ?_
  rintro _ ⟨y, rfl⟩
  go_wp2
  go_ret
  exact ⟨rfl, y.h.2.2⟩

end Go.Proofs.Ytdpkjbjnjkoeaaa
