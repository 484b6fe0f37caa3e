/-
  The walk of GapPacks.
-/
import Derived.Test.YtlneehkkngnjhaaGapF
namespace Go.Proofs.Ytlneehkkngnjhaa
open Go.RowKit

theorem pack_bel (s g m : Int) (w : World) (hm : 0 ≤ m ∧ m ≤ 4294967295) :
    Calls Try.prog 45 #[.agg #[.int .i64 s, .int .i64 g, .int .u32 m]] w fun e w' => e = .returned (.int .u64 (pkI s g m)) ∧ Below w.heap.size w w' :=
  (pack_any s g m w hm).mono fun e w' ⟨he, hw⟩ => ⟨he, hw ▸ below_new (Below.refl _ _) _⟩
theorem rpack_bel (s g m : Int) (w : World) (hm : 0 ≤ m ∧ m ≤ 4294967295) :
    Calls Try.prog 46 #[.int .i64 s, .int .i64 g, .int .u64 m] w fun e w' => e = .returned (.int .u64 (pkI s g m)) ∧ Below w.heap.size w w' :=
  (rpack_any s g m w hm).mono fun e w' ⟨he, hw⟩ => ⟨he, hw ▸ Below.refl _ _⟩
theorem unpack_pk (s g m : Int) (w : World) (hm : 0 ≤ m ∧ m ≤ 4294967295) (hs : 0 ≤ s ∧ s ≤ 65535) (hg : 0 ≤ g ∧ g ≤ 65535) :
    Calls Try.prog 44 #[.int .u64 (pkI s g m)] w fun e w' => e = .returned (.agg #[.int .i64 s, .int .i64 g, .int .u32 m]) ∧ Below w.heap.size w w' := by
  obtain ⟨n, hn⟩ := Int.eq_ofNat_of_zero_le (pkI_b s g m hm).1
  have hl := (pkI_b s g m hm).2
  rw [hn] at hl
  have hn' := hn
  unfold pkI at hn'
  have e1 : unS n = s := by unfold unS; omega
  have e2 : unG n = g := by unfold unG; omega
  have e3 : unM n = m := by unfold unM; omega
  rw [hn, ← e1, ← e2, ← e3]
  exact unpack_any n w (by omega)
theorem pack_un (n : Nat) (hn : n < 18446744073709551616) : pkI (unS n) (unG n) (unM n) = (n : Int) := by
  unfold pkI unS unG unM; omega

def InvP (w : World) (b2 b6 b7 : Nat) (x y z s g m s' g' m' : Int) (w' : World) : Prop :=
  Holds w' b2 #[.int .i64 x, .int .i64 y, .int .i64 z] 56 ∧ StB w' b6 s g m ∧ StB w' b7 s' g' m' ∧ Below w.heap.size w w'

set_option maxHeartbeats 2000000 in
theorem walk_GapPacks (a0 : List Int) (a1 : Int) (l0 : a0.length = 3) (w0 : ∀ x ∈ a0, (Lit.int .i64 x).wf = true) (w1 : (Lit.int .u64 a1).wf = true) (w : World) :
    Calls Try.prog 14 #[.agg (a0.map (Value.int .i64)).toArray, .int .u64 a1] w fun e w' => e = .returned (.bool true) ∧ Below w.heap.size w w' := by
  have hw := bounds_u64 w1
  obtain ⟨n, rfl⟩ := Int.eq_ofNat_of_zero_le hw.1
  have hn : n < 18446744073709551616 := by omega
  clear w1 hw
  match a0, l0, w0 with
  | [x, y, z], _, w0 =>
    have hx := bounds_i64 (w0 x (by simp))
    have hy := bounds_i64 (w0 y (by simp))
    have hz := bounds_i64 (w0 z (by simp))
    clear w0
    show Calls Try.prog 14 #[.agg #[.int .i64 x, .int .i64 y, .int .i64 z], .int .u64 (n : Int)] w fun e w' => e = .returned (.bool true) ∧ Below w.heap.size w w'
    have hN := tN_b x
    have q1 := Int.emod_nonneg (mx y) (show tN x ≠ 0 by omega)
    have q2 := Int.emod_lt_of_pos (mx y) (show 0 < tN x by omega)
    have q3 := Int.emod_nonneg (mx z) (show tN x + 1 ≠ 0 by omega)
    have q4 := Int.emod_lt_of_pos (mx z) (show 0 < tN x + 1 by omega)
    have hm : 0 ≤ x % 4294967296 ∧ x % 4294967296 ≤ 4294967295 := by omega
    have hs : 0 ≤ mx y % tN x ∧ mx y % tN x ≤ 65535 := by omega
    have hg : 0 ≤ mx z % (tN x + 1) ∧ mx z % (tN x + 1) ≤ 65535 := by omega
    clear q1 q2 q3 q4
    go_enter Try.func14, Try.ntmps14
    go_wp2_with fail
    refine (tame_any x y z _).mono ?_
    rintro e w1 ⟨rfl, hb1⟩
    have X1 := (Holds.new w #[.int .i64 x, .int .i64 y, .int .i64 z] 56).below hb1
    have B1 := below_next (below_new (Below.refl _ w) _) hb1
    clear hb1
    generalize tN x = N at *
    generalize mx y % N = s at *
    generalize mx z % (N + 1) = g at *
    generalize x % 4294967296 = m at *
    have S1 := StB.new w1 s g m
    have X2 := X1.alloc (stC s g m)
    have B2 := below_new B1 (stC s g m)
    clear X1 B1
    unfold stC at S1 X2 B2
    go_wp2_with fail
    refine (unpack_any n _ hn).mono ?_
    rintro e w2 ⟨rfl, hb2⟩
    have pu := pack_un n hn
    have u3 : 0 ≤ unM n ∧ unM n ≤ 4294967295 := by unfold unM; omega
    generalize hus : unS n = s2 at *
    generalize hug : unG n = g2 at *
    generalize unM n = m2 at *
    have S3 := (S1.below hb2).alloc (stC s2 g2 m2)
    have X3 := (X2.below hb2).alloc (stC s2 g2 m2)
    have B3 := below_new (below_next B2 hb2) (stC s2 g2 m2)
    have T3 := StB.new w2 s2 g2 m2
    clear S1 X2 B2 hb2
    unfold stC at S3 X3 B3 T3
    have HUS := Lib.hid hus
    have HUG := Lib.hid hug
    clear hus hug
    go_wp2_with fail
    have hI : InvP w w.heap.size w1.heap.size w2.heap.size x y z s g m s2 g2 m2 (w2.alloc (Obj.cells #[Value.int IntKind.i64 s2, Value.int IntKind.i64 g2, Value.int IntKind.u32 m2] 58)) := ⟨X3, S3, T3, B3⟩
    clear X3 S3 T3 B3
    generalize w2.alloc (Obj.cells #[Value.int IntKind.i64 s2, Value.int IntKind.i64 g2, Value.int IntKind.u32 m2] 58) = w3 at *
    generalize hb6 : w1.heap.size = b6 at *
    generalize hb7 : w2.heap.size = b7 at *
    clear hb6 hb7
    have hne : Nonempty (Cls (InvP w w.heap.size b6 b7 x y z s g m s2 g2 m2)) := ⟨⟨w3, hI⟩⟩
    have hK : ∀ (X : Cls (InvP w w.heap.size b6 b7 x y z s g m s2 g2 m2)) (w' : World), Below X.w.heap.size X.w w' → InvP w w.heap.size b6 b7 x y z s g m s2 g2 m2 w' :=
      fun X w' hb => ⟨X.h.1.below hb, X.h.2.1.below hb, X.h.2.2.1.below hb, below_next X.h.2.2.2 hb⟩
    have HK := Lib.hid hK
    clear hK
    have c60 : ∀ X : Cls (InvP w w.heap.size b6 b7 x y z s g m s2 g2 m2), X.w.cell? ⟨b6, 0, none⟩ = some (.int .i64 s) := fun X => X.h.2.1.cells.1
    have c61 : ∀ X : Cls (InvP w w.heap.size b6 b7 x y z s g m s2 g2 m2), X.w.cell? ⟨b6, 1, none⟩ = some (.int .i64 g) := fun X => X.h.2.1.cells.2.1
    have c62 : ∀ X : Cls (InvP w w.heap.size b6 b7 x y z s g m s2 g2 m2), X.w.cell? ⟨b6, 2, none⟩ = some (.int .u32 m) := fun X => X.h.2.1.cells.2.2
    have c70 : ∀ X : Cls (InvP w w.heap.size b6 b7 x y z s g m s2 g2 m2), X.w.cell? ⟨b7, 0, none⟩ = some (.int .i64 s2) := fun X => X.h.2.2.1.cells.1
    have c71 : ∀ X : Cls (InvP w w.heap.size b6 b7 x y z s g m s2 g2 m2), X.w.cell? ⟨b7, 1, none⟩ = some (.int .i64 g2) := fun X => X.h.2.2.1.cells.2.1
    have c72 : ∀ X : Cls (InvP w w.heap.size b6 b7 x y z s g m s2 g2 m2), X.w.cell? ⟨b7, 2, none⟩ = some (.int .u32 m2) := fun X => X.h.2.2.1.cells.2.2
    have hd : decide (N < 1) = false := by simp; omega
    have um : IntKind.u64.wrap m = m := IntWalk.u64_in _ (by omega)
    refine wp_region_cls (InvP w w.heap.size b6 b7 x y z s g m s2 g2 m2) (by kernel_rfl) (by kernel_rfl) ⟨hI.1.drew, hI.2.1.drew, hI.2.2.1.drew, hI.2.2.2.drew⟩ ?_
    repeat (quiet_step ((rename_i X; first
      | (with_reducible exact cls_call X (wakes6_any _) (HK.out X))
      | (with_reducible exact cls_call X (pack_bel _ _ _ _ (by assumption)) (HK.out X))
      | (with_reducible exact cls_call X (rpack_bel _ _ _ _ (by assumption)) (HK.out X))
      | (with_reducible exact cls_call X (unpack_pk _ _ _ _ (by assumption) (by assumption) (by assumption)) (HK.out X)))))
    refine wpQuiet_nil ?_
    rintro w4 ⟨Y, hw4⟩
    have hJ := Y.h
    rw [← hw4] at hJ
    clear hw4 Y
    clear c60 c61 c62 c70 c71 c72 hne HK hI
    obtain ⟨X4, S4, T4, B4⟩ := hJ
    obtain ⟨x0, x1, x2⟩ := X4.three
    have r3 : 0 ≤ z % 4294967296 ∧ z % 4294967296 ≤ 4294967295 := by omega
    have ez : IntKind.u32.wrap z = z % 4294967296 := IntKind.wrap_u32' z
    go_wp2_with fail
    generalize z % 4294967296 = m5 at *
    have X5 := X4.alloc (stC x y m5)
    have T5 := T4.alloc (stC x y m5)
    have R5 := StB.new w4 x y m5
    have B5 := below_new B4 (stC x y m5)
    clear X4 S4 T4 B4 x0 x1 x2
    unfold stC at X5 T5 R5 B5
    have hI : InvP w w.heap.size w4.heap.size b7 x y z x y m5 s2 g2 m2 (w4.alloc (Obj.cells #[Value.int IntKind.i64 x, Value.int IntKind.i64 y, Value.int IntKind.u32 m5] 58)) := ⟨X5, R5, T5, B5⟩
    clear X5 T5 R5 B5
    generalize w4.alloc (Obj.cells #[Value.int IntKind.i64 x, Value.int IntKind.i64 y, Value.int IntKind.u32 m5] 58) = w5 at *
    generalize hb8 : w4.heap.size = b8 at *
    clear hb8
    have hne : Nonempty (Cls (InvP w w.heap.size b8 b7 x y z x y m5 s2 g2 m2)) := ⟨⟨w5, hI⟩⟩
    have hK : ∀ (X : Cls (InvP w w.heap.size b8 b7 x y z x y m5 s2 g2 m2)) (w' : World), Below X.w.heap.size X.w w' → InvP w w.heap.size b8 b7 x y z x y m5 s2 g2 m2 w' :=
      fun X w' hb => ⟨X.h.1.below hb, X.h.2.1.below hb, X.h.2.2.1.below hb, below_next X.h.2.2.2 hb⟩
    have HK := Lib.hid hK
    clear hK
    have c60 : ∀ X : Cls (InvP w w.heap.size b8 b7 x y z x y m5 s2 g2 m2), X.w.cell? ⟨b8, 0, none⟩ = some (.int .i64 x) := fun X => X.h.2.1.cells.1
    have c61 : ∀ X : Cls (InvP w w.heap.size b8 b7 x y z x y m5 s2 g2 m2), X.w.cell? ⟨b8, 1, none⟩ = some (.int .i64 y) := fun X => X.h.2.1.cells.2.1
    have c62 : ∀ X : Cls (InvP w w.heap.size b8 b7 x y z x y m5 s2 g2 m2), X.w.cell? ⟨b8, 2, none⟩ = some (.int .u32 m5) := fun X => X.h.2.1.cells.2.2
    have c70 : ∀ X : Cls (InvP w w.heap.size b8 b7 x y z x y m5 s2 g2 m2), X.w.cell? ⟨b7, 0, none⟩ = some (.int .i64 s2) := fun X => X.h.2.2.1.cells.1
    have c71 : ∀ X : Cls (InvP w w.heap.size b8 b7 x y z x y m5 s2 g2 m2), X.w.cell? ⟨b7, 1, none⟩ = some (.int .i64 g2) := fun X => X.h.2.2.1.cells.2.1
    have c20 : ∀ X : Cls (InvP w w.heap.size b8 b7 x y z x y m5 s2 g2 m2), X.w.cell? ⟨w.heap.size, 0, none⟩ = some (.int .i64 x) := fun X => X.h.1.three.1
    have c21 : ∀ X : Cls (InvP w w.heap.size b8 b7 x y z x y m5 s2 g2 m2), X.w.cell? ⟨w.heap.size, 1, none⟩ = some (.int .i64 y) := fun X => X.h.1.three.2.1
    have c22 : ∀ X : Cls (InvP w w.heap.size b8 b7 x y z x y m5 s2 g2 m2), X.w.cell? ⟨w.heap.size, 2, none⟩ = some (.int .i64 z) := fun X => X.h.1.three.2.2
    have e1 : IntKind.i64.wrap ((n : Int).tmod 65536) = s2 := by
      rw [← HUS.out]; unfold unS
      rw [show (65536 : Int) = ((65536 : Nat) : Int) from rfl, ← Int.ofNat_tmod, IntWalk.i64_in _ (by omega)]
    have e2 : IntKind.i64.wrap ((IntKind.u64.wrap ((n : Int) / 65536)).tmod 65536) = g2 := by
      rw [← HUG.out]; unfold unG
      rw [IntWalk.u64_in _ (by omega), show (65536 : Int) = ((65536 : Nat) : Int) from rfl, ← Int.natCast_ediv, ← Int.ofNat_tmod, IntWalk.i64_in _ (by omega)]
    have um5 : IntKind.u64.wrap m5 = m5 := IntWalk.u64_in _ (by omega)
    refine wp_region_cls (InvP w w.heap.size b8 b7 x y z x y m5 s2 g2 m2) (by kernel_rfl) (by kernel_rfl) ⟨hI.1.drew, hI.2.1.drew, hI.2.2.1.drew, hI.2.2.2.drew⟩ ?_
    repeat (quiet_step ((rename_i X; first
      | (with_reducible exact cls_call X (pack_bel _ _ _ _ (by assumption)) (HK.out X))
      | (with_reducible exact cls_call X (rpack_bel _ _ _ _ (by assumption)) (HK.out X)))))
    refine wpQuiet_nil ?_
    rintro w6 ⟨Y, hw6⟩
    have hJ := Y.h
    rw [← hw6] at hJ
    clear hw6 Y
    go_wp2
    go_ret
    exact ⟨rfl, hJ.2.2.2⟩

end Go.Proofs.Ytlneehkkngnjhaa
