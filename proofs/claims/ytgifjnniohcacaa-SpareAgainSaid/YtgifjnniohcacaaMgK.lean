/-
  MgK: SpX, SpY.
-/
import Derived.Test.YtgifjnniohcacaaSpW
import Derived.Test.YtgifjnniohcacaaMgI
import Derived.Test.YtgifjnniohcacaaMgO
import Derived.Test.YtgifjnniohcacaaLnM
import Derived.Deep.CutBlock

/-
  SpareAgain.
-/
namespace Go.Proofs.Ytgifjnniohcacaa
open Go.ChangeShapes Go.WideShapes Go.ChangeAt Go.RowKit
set_option linter.unusedVariables false

theorem readR_in {D : DevS} {p : PlanZ} {B : BkS} {i : Int} (ho : D.off = false) (hi : inP p i) : readR D p B i = (⟨(getT D (placeP p B i).toNat).toArray⟩, 0) := by
  unfold readR; rw [if_pos hi, ho]; simp

set_option maxRecDepth 100000 in
set_option maxHeartbeats 40000000 in
theorem again_some (x0 x1 x2 : Int) (b off L cap : Nat) (acts : Nat → ActL) (w : World) (hpos : 0 < L) (hcap : L ≤ cap) (hmax : cap ≤ maxLen) (hlt : b < w.heap.size) (hx : ∀ i, i < L → ActLIs w (acts i) ∧ ActLAt w b (off + i * 6) (acts i)) :
    Calls Try.prog 6 #[.agg #[.int .i64 x0, .int .i64 x1, .int .i64 x2], .slice (some ⟨b, off, none⟩) L cap] w fun e w' => e = .returned (.bool true) ∧ Gr [] w w' := by
  obtain ⟨M, hM⟩ : ∃ M, M = min L 20 := ⟨_, rfl⟩
  have hmn := minIsR Try.prog L M 20 20 rfl hM
  have hM1 : M ≤ L := by omega
  have hM2 : M ≤ 20 := by omega
  have HX := Lib.hid hx
  unfold maxLen at hmax
  clear hx hM
  have HSm := Lib.hid (fun W => small_any x0 x1 x2 W)
  have hok := small_ok x0 x1 x2
  obtain ⟨P, hP⟩ : ∃ P, P = smallP x0 x1 x2 := ⟨_, rfl⟩
  have hPb : P.a ≤ 2 ∧ P.l ≤ 4 ∧ P.s ≤ 10 := by rw [hP]; unfold smallP; simp only; omega
  rw [← hP] at HSm hok
  unfold planV at HSm
  obtain ⟨h1, h2, h3, h4, h5, h6⟩ := (okZ_iff P).1 hok
  have HOK := Lib.hid (And.intro hok (And.intro h1 (And.intro h3 (And.intro h5 hPb))))
  have HPr := Lib.hid (fun W => show Calls Try.prog 27 #[.agg #[.int .i64 P.a, .int .i64 P.l, .int .i64 P.s]] W _ from pair_any P hok (by omega) W)
  have HG0 := Lib.hid ((Gr.refl [] w).alloc (Obj.cells #[.int .i64 x0, .int .i64 x1, .int .i64 x2] 22))
  clear hP hok h1 h2 h3 h4 h5 h6 hPb
  go_enter Try.func6, Try.ntmps6
  go_wp2_with fail
  generalize (w.alloc (Obj.cells #[.int .i64 x0, .int .i64 x1, .int .i64 x2] 22)) = w1 at *
  refine (HSm.out _).mono ?_
  rintro e w2 ⟨rfl, b2⟩
  have HG2 := Lib.hid (HG0.out.nextB b2)
  have HHo := Holds.new w2 #[.int .i64 P.a, .int .i64 P.l, .int .i64 P.s] 24
  have HGa := Lib.hid (HG2.out.next0 ((Gr.refl [] w2).alloc (Obj.cells #[.int .i64 P.a, .int .i64 P.l, .int .i64 P.s] 24)))
  clear b2 HG0 HG2
  go_upto_region 2 with fail
  generalize (w2.alloc (Obj.cells #[.int .i64 P.a, .int .i64 P.l, .int .i64 P.s] 24)) = w3 at *
  obtain ⟨pb, hpb⟩ : ∃ pb, w2.heap.size = pb := ⟨_, rfl⟩
  rw [hpb] at HHo ⊢
  clear hpb
  have p0 := HHo.cell 0
  have p1 := HHo.cell 1
  have p2 := HHo.cell 2
  have HH3 := Lib.hid HHo
  clear HHo
  go_wp2_with fail
  refine (HPr.out _).mono ?_
  rintro e w4 ⟨a, q, r, F, rfl, d4, k4, r4, ar, qr, ti, zf, bf, la, lq, lr, g4⟩
  have HLO := Lib.hid (And.intro (show ∀ x ∈ a.all, w.heap.size ≤ x from fun x hx => Nat.le_trans HGa.out.size (la x hx)) (And.intro (show ∀ x ∈ q.all, w.heap.size ≤ x from fun x hx => Nat.le_trans HGa.out.size (lq x hx)) (And.intro (show pb ∉ a.all from fun c => by have := la _ c; have := HH3.out.lt; omega) (show pb ∉ q.all from fun c => by have := lq _ c; have := HH3.out.lt; omega))))
  have H4 := Lib.hid (And.intro d4 (And.intro k4 (And.intro ti (And.intro bf (And.intro (HH3.out.gr0 g4) (HGa.out.trans g4))))))
  clear d4 k4 r4 ar qr ti zf bf la lq lr g4 p0 p1 p2 HH3 HGa HPr HSm
  go_wp2_with fail
  refine (wakes05 _).mono ?_
  rintro e w5 ⟨rfl, g5⟩
  have H5 := Lib.hid (And.intro (H4.out.1.gr0 g5) (And.intro (H4.out.2.1.gr0 g5) (And.intro H4.out.2.2.1 (And.intro H4.out.2.2.2.1 (And.intro (H4.out.2.2.2.2.1.gr0 g5) (H4.out.2.2.2.2.2.trans g5))))))
  clear g5 H4
  have p0 := H5.out.2.2.2.2.1.cell 0
  have p1 := H5.out.2.2.2.2.1.cell 1
  have p2 := H5.out.2.2.2.2.1.cell 2
  have hs0 : 0 ≤ P.s ∧ P.s ≤ 10 := ⟨HOK.out.2.2.2.1, HOK.out.2.2.2.2.2.2⟩
  obtain ⟨hs0, hs1⟩ := hs0
  go_wp2_with fail
  clear hmn p0 p1 p2
  have HTB := Lib.hid (show (P.s + 7) / 8 = tabZ P from rfl)
  go_loopw [49] (fun i wr => ∃ (k : Nat) (D : DevS) (B : BkS), k ≤ M ∧ i = .int .i64 k ∧ DevIs wr a D ∧ BkIs wr q a P B (64 * k) ∧ TI P D B ∧ Bd D (20000 + 1400 * k) ∧ Holds wr pb #[.int .i64 P.a, .int .i64 P.l, .int .i64 P.s] 24 ∧ Gr [] w wr) (fun i _ => M - (intOf i).toNat)
  case atStart => exact ⟨0, F, ⟨0, fun _ => none⟩, by omega, rfl, H5.out.1, H5.out.2.1, H5.out.2.2.1, H5.out.2.2.2.1, H5.out.2.2.2.2.1, H5.out.2.2.2.2.2⟩
  case round =>
    clear H5
    obtain ⟨k, D, B, hk, rfl, d6, k6, t6, b6, p6, g6⟩ := hrel
    by_cases hkM : k < M
    · have hx := HX.out k (by omega)
      have HA := Lib.hid hx.1
      obtain ⟨e0, e1, e2, e3, e4, e5⟩ := hx.2
      have e0 := (g6.cell0 hlt).trans e0
      have e1 := (g6.cell0 hlt).trans e1
      have e2 := (g6.cell0 hlt).trans e2
      have e3 := (g6.cell0 hlt).trans e3
      have e4 := (g6.cell0 hlt).trans e4
      have e5 := (g6.cell0 hlt).trans e5
      obtain ⟨x, hxe⟩ : ∃ x, acts k = x := ⟨_, rfl⟩
      rw [hxe] at HA e0 e1 e2 e3 e4 e5
      clear hx hxe
      obtain ⟨xd, xz, xk, xv, xs, xao, xkl, xkc⟩ := x
      rename_i xkp
      dsimp only at e0 e1 e2 e3 e4 e5
      have hkb : (k : Int) < (M : Int) := by omega
      have hk0 : (0 : Int) ≤ (k : Int) := by omega
      obtain ⟨m8, hm8⟩ : ∃ m, m = min xs.size 64 := ⟨_, rfl⟩
      have hmn := minIsR Try.prog xs.size m8 64 64 rfl hm8
      have hm8a : m8 ≤ xs.size := by omega
      have hxsz : xs.size ≤ 9223372036854775807 := by have := HA.out.2.2.2.2.1; unfold maxLen at this; omega
      have HM8 := Lib.hid (show m8 ≤ 64 by omega)
      have hmx := max0 Try.prog
      have hd0 := mx_nonneg xd
      have hz0 := mx_nonneg xz
      have X := Holds.new wr #[Value.int .i64 xd, .int .i64 xz, .int .i64 xk, .int .u64 (xv : Int), .string xs, .slice xao xkl xkc] 64
      have gA := (Gr.refl [] wr).alloc (Obj.cells #[Value.int .i64 xd, .int .i64 xz, .int .i64 xk, .int .u64 (xv : Int), .string xs, .slice xao xkl xkc] 64)
      have H6 := Lib.hid (And.intro (d6.gr0 gA) (And.intro (k6.gr0 gA) (And.intro t6 (And.intro b6 (And.intro (p6.gr0 gA) (g6.trans gA))))))
      have HB7 := Lib.hid (show wr.heap.size ∉ a.all ∧ wr.heap.size ∉ q.all from ⟨fun c => by have := d6.lt _ c; omega, fun c => by have := k6.lt _ c; omega⟩)
      clear d6 k6 t6 b6 p6 g6 gA hm8
      go_upto_region 9 with fail
      clear e0 e1 e2 e3 e4 e5
      generalize wr.alloc (Obj.cells #[Value.int .i64 xd, .int .i64 xz, .int .i64 xk, .int .u64 (xv : Int), .string xs, .slice xao xkl xkc] 64) = wa at *
      obtain ⟨b7, hb7⟩ : ∃ b7, wr.heap.size = b7 := ⟨_, rfl⟩
      rw [hb7] at X HB7 ⊢
      clear hb7
      obtain ⟨S, hS⟩ : ∃ S, xs.extract 0 m8 = S := ⟨_, rfl⟩
      have HSZ := Lib.hid (show S.size ≤ 64 by rw [← hS, ByteArray.size_extract]; have := HM8.out; omega)
      have k0 := X.cell 0
      have HX7 := Lib.hid X
      clear X
      have hq0 : 0 < P.l + P.s := by have := HOK.out.2.2.1; omega
      have hql : 0 < P.l := by have := HOK.out.2.2.1; omega
      have hlb : P.l ≤ 4 := HOK.out.2.2.2.2.2.1
      have hab : 0 ≤ P.a ∧ P.a ≤ 2 := ⟨HOK.out.2.1, HOK.out.2.2.2.2.1⟩
      obtain ⟨ha0, ha2⟩ := hab
      have w1a : IntKind.i64.wrap (P.a + (P.s + 7) / 8) = P.a + (P.s + 7) / 8 := IntWalk.i64_in _ (by omega)
      have w2a : IntKind.i64.wrap (P.l + P.s) = P.l + P.s := IntWalk.i64_in _ (by omega)
      have w3a : (mx xz).tmod (P.l + P.s) = mx xz % (P.l + P.s) := Int.tmod_eq_emod_of_nonneg hz0
      have w3b : (mx xz).tmod P.l = mx xz % P.l := Int.tmod_eq_emod_of_nonneg hz0
      have m1 := Int.emod_nonneg (mx xz) (show P.l + P.s ≠ 0 by omega)
      have m2 := Int.emod_lt_of_pos (mx xz) hq0
      have m3 := Int.emod_nonneg (mx xz) (show P.l ≠ 0 by omega)
      have m4 := Int.emod_lt_of_pos (mx xz) hql
      have w4a : IntKind.i64.wrap (P.a + (P.s + 7) / 8 + mx xz % (P.l + P.s)) = P.a + (P.s + 7) / 8 + mx xz % (P.l + P.s) := IntWalk.i64_in _ (by omega)
      have w5a : IntKind.i64.wrap (mx xz % (P.l + P.s)) = mx xz % (P.l + P.s) := IntWalk.i64_in _ (by omega)
      have w6a : IntKind.i64.wrap (mx xz % P.l) = mx xz % P.l := IntWalk.i64_in _ (by omega)
      have n1 : ((P.l + P.s) == 0) = false := by simp; omega
      have n2 : (P.l == 0) = false := by simp; omega
      have n3 : P.l + P.s ≠ 0 := by omega
      have n4 : P.l ≠ 0 := by omega
      by_cases c : mx xd % 3 = 2
      · have cb : (mx xd % 3 == 2) = true := by simpa using c
        go_upto_region 10 with fail
        have y0 := H6.out.2.2.2.2.1.cell 0
        have y1 := H6.out.2.2.2.2.1.cell 1
        have y2 := H6.out.2.2.2.2.1.cell 2
        have z1 := HX7.out.cell 1
        have k0' := kp_cell y0
        have k1' := kp_cell y1
        have k2' := kp_cell y2
        have k3' := kp_cell z1
        have hne := kp_ne wa
        refine wp_region_kp_tail 15 (by kernel_rfl) (by kernel_rfl) ?_
        simp only [List.take_succ_cons, List.take_zero, List.drop_succ_cons, List.drop_zero]
        repeat (go_big_quiet_step (fail))
        with_reducible refine wpQuiet_nil ?_
        rintro _ ⟨y, rfl⟩
        have gy := Gr.ofBelow (cs := []) y.h
        obtain ⟨ln, hln⟩ : ∃ ln : Nat, (ln : Int) = P.a + (P.s + 7) / 8 + mx xz % (P.l + P.s) := ⟨(P.a + (P.s + 7) / 8 + mx xz % (P.l + P.s)).toNat, by omega⟩
        have hsz : sizeZ P = (P.s + 7) / 8 + P.l + P.s := by unfold sizeZ; rw [if_pos HOK.out.1]; rfl
        have hfit := H6.out.2.2.1.fits
        have HBr := Lib.hid (break_in a D ln y.w (H6.out.1.gr0 gy) (by omega))
        rw [hln] at HBr
        have hbk := H6.out.2.1.gr0 gy
        have HH := Lib.hid (And.intro hbk (And.intro (H6.out.2.2.2.2.1.gr0 gy) (And.intro (H6.out.2.2.2.2.2.trans gy) (HX7.out.gr0 gy))))
        have HLN := Lib.hid (show P.a + tabZ P ≤ (ln : Int) by unfold tabZ; omega)
        clear gy hbk hsz hfit hln k0' k1' k2' k3' hne y0 y1 y2 z1
        generalize y.w = wy at *
        clear y
        go_wp2_with fail
        refine HBr.out.mono ?_
        rintro e wb ⟨rfl, d8, g8⟩
        have g8a : Gr a.all wy wb := g8.mono (fun b hb => by simp at hb; subst hb; simp [DevA.all])
        obtain ⟨D', hD'⟩ : ∃ D' : DevS, D' = { D with bad := fun x => if x = ln then true else D.bad x } := ⟨_, rfl⟩
        rw [← hD'] at d8
        have hti : TI P D' B := by
          have t := H6.out.2.2.1
          rw [hD']
          exact t.keep ⟨t.calm.off, t.calm.fuse, t.calm.buf⟩ rfl (fun x _ => rfl) HOK.out.1 (fun l' q1 q2 => by show (if l' = ln then true else D.bad l') = false; rw [if_neg (by have := HLN.out; omega)]; exact t.tb l' q1 q2)
        have hbd : Bd D' (20000 + 1400 * k) := by rw [hD']; exact H6.out.2.2.2.1
        have H8 := Lib.hid (And.intro d8 (And.intro (HH.out.1.grD g8a) (And.intro hti (And.intro hbd (And.intro (HH.out.2.1.gr g8a HLO.out.2.2.1) (HH.out.2.2.1.nextN g8a (fun x hx => .inr (HLO.out.1 x hx))))))))
        have HX8 := Lib.hid (HH.out.2.2.2.gr g8a HB7.out.1)
        clear d8 g8 g8a hti hbd hD' HBr HH HLN H6 HX7
        go_upto_region 11 with fail
        have y0 := H8.out.2.2.2.2.1.cell 0
        have y1 := H8.out.2.2.2.2.1.cell 1
        have y2 := H8.out.2.2.2.2.1.cell 2
        have z1 := HX8.out.cell 1
        have z4 := HX8.out.cell 4
        have HFu := Lib.hid (fun W => full05 S W (by have := HSZ.out; omega))
        have HFuK := Lib.hid (fun W => (HFu.out W).mono fun e w' h => And.intro h.1 h.2.below0)
        have k0' := kp_cell y0
        have k1' := kp_cell y1
        have k2' := kp_cell y2
        have k3' := kp_cell z1
        have k4' := kp_cell z4
        have hne := kp_ne wb
        refine wp_region_kp_tail 15 (by kernel_rfl) (by kernel_rfl) ?_
        simp only [List.take_succ_cons, List.take_zero, List.drop_succ_cons, List.drop_zero]
        repeat (go_big_quiet_step (first | (rename_i x; exact kp_call x (HFuK.out _)) | (rename_i x; rw [hS]; exact kp_call x (HFuK.out _))))
        with_reducible refine wpQuiet_nil ?_
        rintro _ ⟨y, rfl⟩
        have gy := Gr.ofBelow (cs := []) y.h
        have hin : inP P (mx xz % P.l) := ⟨m3, m4⟩
        obtain ⟨eW, E, B', q1, q2, q3, q4⟩ := write_calm H8.out.2.2.1 HOK.out.1 hin (fullS_size S)
        have HW := Lib.hid (bwrite_any (mx xz % P.l) (fullS S) (m := 64 * k) (H8.out.2.1.gr0 gy) (H8.out.1.gr0 gy) H8.out.2.2.2.1 (by omega) (fullS_max S) (by omega))
        rw [q1] at HW
        have HTI := Lib.hid q2
        have HG8 := Lib.hid (And.intro (H8.out.2.2.2.2.1.gr0 gy) (H8.out.2.2.2.2.2.trans gy))
        clear gy hin q1 q2 q3 q4 k0' k1' k2' k3' k4' hne y0 y1 y2 z1 z4 H8 HX8 HFuK HFu
        generalize y.w = wy2 at *
        clear y
        go_wp2_with fail
        refine HW.out.mono ?_
        rintro e w9 ⟨rfl, d9, b9, k9, g9⟩
        have H9 := Lib.hid (And.intro d9 (And.intro k9 (And.intro b9 (And.intro (HG8.out.1.gr g9 (fun c => by rcases List.mem_append.1 c with c | c; exact HLO.out.2.2.2 c; exact HLO.out.2.2.1 c)) (HG8.out.2.nextN g9 (fun x hx => .inr (by rcases List.mem_append.1 hx with c | c; exact HLO.out.2.1 x c; exact HLO.out.1 x c)))))))
        clear d9 b9 k9 g9 HW HG8
        have hck : checkZ P (E.n : Int) = 0 := by have := HTI.out.fits; unfold checkZ; rw [if_pos HOK.out.1, if_neg (by omega)]
        have HOp := Lib.hid (show Calls Try.prog 13 #[.pointer (some ⟨a.bd, 0, none⟩), .agg #[.int .i64 P.a, .int .i64 P.l, .int .i64 P.s]] w9 _ from open_ok H9.out.1 HTI.out.calm.off hck HTI.out.opens)
        have y0 := H9.out.2.2.2.1.cell 0
        have y1 := H9.out.2.2.2.1.cell 1
        have y2 := H9.out.2.2.2.1.cell 2
        clear hck
        go_wp2_with fail
        refine HOp.out.mono ?_
        rintro e w10 ⟨q', rfl, k10, hq10, g10⟩
        have H10 := Lib.hid (And.intro (H9.out.1.gr0 g10) (And.intro (H9.out.2.1.gr0 g10) (And.intro H9.out.2.2.1 (And.intro (H9.out.2.2.2.1.gr0 g10) (And.intro (H9.out.2.2.2.2.trans g10) k10)))))
        clear k10 hq10 g10 y0 y1 y2 H9 HOp
        have HL1 := Lib.hid (left_at H10.out.2.2.2.2.2)
        go_wp2_with fail
        refine HL1.out.mono ?_
        rintro e w11 ⟨rfl, g11⟩
        have HG11 := Lib.hid g11
        clear g11
        have HL2 := Lib.hid (left_at (H10.out.2.1.gr0 HG11.out))
        go_wp2_with fail
        refine HL2.out.mono ?_
        rintro e w12 ⟨rfl, g12⟩
        have HG12 := Lib.hid (HG11.out.trans g12)
        clear g12
        have HL3 := Lib.hid (lines_at (H10.out.2.2.2.2.2.gr0 HG12.out))
        go_wp2_with fail
        refine HL3.out.mono ?_
        rintro e w13 ⟨rfl, rfl⟩
        have HL4 := Lib.hid (lines_at (H10.out.2.1.gr0 HG12.out))
        go_wp2_with fail
        refine HL4.out.mono ?_
        rintro e w14 ⟨rfl, rfl⟩
        have H14 := Lib.hid (And.intro (H10.out.1.gr0 HG12.out) (And.intro (H10.out.2.1.gr0 HG12.out) (And.intro H10.out.2.2.1 (And.intro (H10.out.2.2.2.1.gr0 HG12.out) (And.intro (H10.out.2.2.2.2.1.trans HG12.out) (H10.out.2.2.2.2.2.gr0 HG12.out))))))
        have y1 := H14.out.2.2.2.1.cell 1
        clear H10 HG11 HG12 HL1 HL2 HL3 HL4
        go_wp2_with fail
        clear y1 m1 m2 m3 m4
        go_loopw [114] (fun v wr => ∃ j : Nat, (j : Int) ≤ P.l ∧ v = .int .i64 j ∧ Gr [] w14 wr) (fun v _ => P.l.toNat - (intOf v).toNat)
        case atStart => exact ⟨0, by omega, rfl, Gr.refl _ _⟩
        case round =>
          obtain ⟨j, hj, rfl, gj⟩ := hrel
          have HJ := Lib.hid gj
          clear gj
          by_cases hjl : (j : Int) < P.l
          · have hin : inP P (j : Int) := ⟨by omega, hjl⟩
            have hfit := HTI.out.fits
            have hrd := readR_in (p := P) (B := B') HTI.out.calm.off hin
            obtain ⟨tx, htx⟩ : ∃ tx, tx = (⟨(getT E (placeP P B' (j : Int)).toNat).toArray⟩ : ByteArray) := ⟨_, rfl⟩
            rw [← htx] at hrd
            have HR1 := Lib.hid (fun W (g : Gr [] w14 W) => read_any (j : Int) (H14.out.2.1.gr0 g) (H14.out.1.gr0 g) hfit)
            have HR2 := Lib.hid (fun W (g : Gr [] w14 W) => read_any (j : Int) (H14.out.2.2.2.2.2.gr0 g) (H14.out.1.gr0 g) hfit)
            have HW1 := Lib.hid (fun W (g : Gr [] w14 W) => where_in (j : Int) (H14.out.2.1.gr0 g) hin)
            have HW2 := Lib.hid (fun W (g : Gr [] w14 W) => where_in (j : Int) (H14.out.2.2.2.2.2.gr0 g) hin)
            rw [hrd] at HR1 HR2
            obtain ⟨pl, hpl⟩ : ∃ pl, pl = placeP P B' (j : Int) := ⟨_, rfl⟩
            rw [← hpl] at HW1 HW2
            clear hin hfit hrd htx hpl
            go_wp2_with fail
            refine (HR1.out _ HJ.out).mono ?_
            rintro e w15 ⟨rfl, g15⟩
            have HJ := Lib.hid (HJ.out.trans g15)
            clear g15
            go_wp2_with fail
            refine (HR2.out _ HJ.out).mono ?_
            rintro e w16 ⟨rfl, g16⟩
            have HJ := Lib.hid (HJ.out.trans g16)
            clear g16
            go_wp2_with fail
            refine (HW1.out _ HJ.out).mono ?_
            rintro e w17 ⟨rfl, g17⟩
            have HJ := Lib.hid (HJ.out.trans g17)
            clear g17
            go_wp2_with fail
            refine (HW2.out _ HJ.out).mono ?_
            rintro e w18 ⟨rfl, g18⟩
            have HJ := Lib.hid (HJ.out.trans g18)
            clear g18
            go_wp2_with fail
            go_roundw
            case rel => exact ⟨j + 1, by omega, by go_num, HJ.out⟩
            case measure => simp [intOf]; omega
          · go_wp2_with fail
            go_roundw
            case rel => exact ⟨k + 1, E, B', by omega, by go_num, H14.out.1.gr0 HJ.out, (H14.out.2.1.gr0 HJ.out).moreN _ (by omega), HTI.out, H14.out.2.2.1.mono (by omega), H14.out.2.2.2.1.gr0 HJ.out, H14.out.2.2.2.2.1.trans HJ.out⟩
            case measure => simp [intOf]; omega
      · have cb : (mx xd % 3 == 2) = false := by simpa using c
        have H8 := Lib.hid H6.out
        have HX8 := Lib.hid HX7.out
        obtain ⟨D', hD'⟩ : ∃ D', D = D' := ⟨_, rfl⟩
        rw [hD'] at H8
        clear hD' H6 HX7
        obtain ⟨wb, hwb⟩ : ∃ wb, wa = wb := ⟨_, rfl⟩
        subst hwb
        go_upto_region 11 with fail
        have y0 := H8.out.2.2.2.2.1.cell 0
        have y1 := H8.out.2.2.2.2.1.cell 1
        have y2 := H8.out.2.2.2.2.1.cell 2
        have z1 := HX8.out.cell 1
        have z4 := HX8.out.cell 4
        have HFu := Lib.hid (fun W => full05 S W (by have := HSZ.out; omega))
        have HFuK := Lib.hid (fun W => (HFu.out W).mono fun e w' h => And.intro h.1 h.2.below0)
        have k0' := kp_cell y0
        have k1' := kp_cell y1
        have k2' := kp_cell y2
        have k3' := kp_cell z1
        have k4' := kp_cell z4
        have hne := kp_ne wa
        refine wp_region_kp_tail 15 (by kernel_rfl) (by kernel_rfl) ?_
        simp only [List.take_succ_cons, List.take_zero, List.drop_succ_cons, List.drop_zero]
        repeat (go_big_quiet_step (first | (rename_i x; exact kp_call x (HFuK.out _)) | (rename_i x; rw [hS]; exact kp_call x (HFuK.out _))))
        with_reducible refine wpQuiet_nil ?_
        rintro _ ⟨y, rfl⟩
        have gy := Gr.ofBelow (cs := []) y.h
        have hin : inP P (mx xz % P.l) := ⟨m3, m4⟩
        obtain ⟨eW, E, B', q1, q2, q3, q4⟩ := write_calm H8.out.2.2.1 HOK.out.1 hin (fullS_size S)
        have HW := Lib.hid (bwrite_any (mx xz % P.l) (fullS S) (m := 64 * k) (H8.out.2.1.gr0 gy) (H8.out.1.gr0 gy) H8.out.2.2.2.1 (by omega) (fullS_max S) (by omega))
        rw [q1] at HW
        have HTI := Lib.hid q2
        have HG8 := Lib.hid (And.intro (H8.out.2.2.2.2.1.gr0 gy) (H8.out.2.2.2.2.2.trans gy))
        clear gy hin q1 q2 q3 q4 k0' k1' k2' k3' k4' hne y0 y1 y2 z1 z4 H8 HX8 HFuK HFu
        generalize y.w = wy2 at *
        clear y
        go_wp2_with fail
        refine HW.out.mono ?_
        rintro e w9 ⟨rfl, d9, b9, k9, g9⟩
        have H9 := Lib.hid (And.intro d9 (And.intro k9 (And.intro b9 (And.intro (HG8.out.1.gr g9 (fun c => by rcases List.mem_append.1 c with c | c; exact HLO.out.2.2.2 c; exact HLO.out.2.2.1 c)) (HG8.out.2.nextN g9 (fun x hx => .inr (by rcases List.mem_append.1 hx with c | c; exact HLO.out.2.1 x c; exact HLO.out.1 x c)))))))
        clear d9 b9 k9 g9 HW HG8
        have hck : checkZ P (E.n : Int) = 0 := by have := HTI.out.fits; unfold checkZ; rw [if_pos HOK.out.1, if_neg (by omega)]
        have HOp := Lib.hid (show Calls Try.prog 13 #[.pointer (some ⟨a.bd, 0, none⟩), .agg #[.int .i64 P.a, .int .i64 P.l, .int .i64 P.s]] w9 _ from open_ok H9.out.1 HTI.out.calm.off hck HTI.out.opens)
        have y0 := H9.out.2.2.2.1.cell 0
        have y1 := H9.out.2.2.2.1.cell 1
        have y2 := H9.out.2.2.2.1.cell 2
        clear hck
        go_wp2_with fail
        refine HOp.out.mono ?_
        rintro e w10 ⟨q', rfl, k10, hq10, g10⟩
        have H10 := Lib.hid (And.intro (H9.out.1.gr0 g10) (And.intro (H9.out.2.1.gr0 g10) (And.intro H9.out.2.2.1 (And.intro (H9.out.2.2.2.1.gr0 g10) (And.intro (H9.out.2.2.2.2.trans g10) k10)))))
        clear k10 hq10 g10 y0 y1 y2 H9 HOp
        have HL1 := Lib.hid (left_at H10.out.2.2.2.2.2)
        go_wp2_with fail
        refine HL1.out.mono ?_
        rintro e w11 ⟨rfl, g11⟩
        have HG11 := Lib.hid g11
        clear g11
        have HL2 := Lib.hid (left_at (H10.out.2.1.gr0 HG11.out))
        go_wp2_with fail
        refine HL2.out.mono ?_
        rintro e w12 ⟨rfl, g12⟩
        have HG12 := Lib.hid (HG11.out.trans g12)
        clear g12
        have HL3 := Lib.hid (lines_at (H10.out.2.2.2.2.2.gr0 HG12.out))
        go_wp2_with fail
        refine HL3.out.mono ?_
        rintro e w13 ⟨rfl, rfl⟩
        have HL4 := Lib.hid (lines_at (H10.out.2.1.gr0 HG12.out))
        go_wp2_with fail
        refine HL4.out.mono ?_
        rintro e w14 ⟨rfl, rfl⟩
        have H14 := Lib.hid (And.intro (H10.out.1.gr0 HG12.out) (And.intro (H10.out.2.1.gr0 HG12.out) (And.intro H10.out.2.2.1 (And.intro (H10.out.2.2.2.1.gr0 HG12.out) (And.intro (H10.out.2.2.2.2.1.trans HG12.out) (H10.out.2.2.2.2.2.gr0 HG12.out))))))
        have y1 := H14.out.2.2.2.1.cell 1
        clear H10 HG11 HG12 HL1 HL2 HL3 HL4
        go_wp2_with fail
        clear y1 m1 m2 m3 m4
        go_loopw [114] (fun v wr => ∃ j : Nat, (j : Int) ≤ P.l ∧ v = .int .i64 j ∧ Gr [] w14 wr) (fun v _ => P.l.toNat - (intOf v).toNat)
        case atStart => exact ⟨0, by omega, rfl, Gr.refl _ _⟩
        case round =>
          obtain ⟨j, hj, rfl, gj⟩ := hrel
          have HJ := Lib.hid gj
          clear gj
          by_cases hjl : (j : Int) < P.l
          · have hin : inP P (j : Int) := ⟨by omega, hjl⟩
            have hfit := HTI.out.fits
            have hrd := readR_in (p := P) (B := B') HTI.out.calm.off hin
            obtain ⟨tx, htx⟩ : ∃ tx, tx = (⟨(getT E (placeP P B' (j : Int)).toNat).toArray⟩ : ByteArray) := ⟨_, rfl⟩
            rw [← htx] at hrd
            have HR1 := Lib.hid (fun W (g : Gr [] w14 W) => read_any (j : Int) (H14.out.2.1.gr0 g) (H14.out.1.gr0 g) hfit)
            have HR2 := Lib.hid (fun W (g : Gr [] w14 W) => read_any (j : Int) (H14.out.2.2.2.2.2.gr0 g) (H14.out.1.gr0 g) hfit)
            have HW1 := Lib.hid (fun W (g : Gr [] w14 W) => where_in (j : Int) (H14.out.2.1.gr0 g) hin)
            have HW2 := Lib.hid (fun W (g : Gr [] w14 W) => where_in (j : Int) (H14.out.2.2.2.2.2.gr0 g) hin)
            rw [hrd] at HR1 HR2
            obtain ⟨pl, hpl⟩ : ∃ pl, pl = placeP P B' (j : Int) := ⟨_, rfl⟩
            rw [← hpl] at HW1 HW2
            clear hin hfit hrd htx hpl
            go_wp2_with fail
            refine (HR1.out _ HJ.out).mono ?_
            rintro e w15 ⟨rfl, g15⟩
            have HJ := Lib.hid (HJ.out.trans g15)
            clear g15
            go_wp2_with fail
            refine (HR2.out _ HJ.out).mono ?_
            rintro e w16 ⟨rfl, g16⟩
            have HJ := Lib.hid (HJ.out.trans g16)
            clear g16
            go_wp2_with fail
            refine (HW1.out _ HJ.out).mono ?_
            rintro e w17 ⟨rfl, g17⟩
            have HJ := Lib.hid (HJ.out.trans g17)
            clear g17
            go_wp2_with fail
            refine (HW2.out _ HJ.out).mono ?_
            rintro e w18 ⟨rfl, g18⟩
            have HJ := Lib.hid (HJ.out.trans g18)
            clear g18
            go_wp2_with fail
            go_roundw
            case rel => exact ⟨j + 1, by omega, by go_num, HJ.out⟩
            case measure => simp [intOf]; omega
          · go_wp2_with fail
            go_roundw
            case rel => exact ⟨k + 1, E, B', by omega, by go_num, H14.out.1.gr0 HJ.out, (H14.out.2.1.gr0 HJ.out).moreN _ (by omega), HTI.out, H14.out.2.2.1.mono (by omega), H14.out.2.2.2.1.gr0 HJ.out, H14.out.2.2.2.2.1.trans HJ.out⟩
            case measure => simp [intOf]; omega
    · obtain rfl : k = M := by omega
      have ij : ¬ ((k : Int) < (k : Int)) := by omega
      go_wp2_with fail
      go_ret
      exact ⟨rfl, g6⟩
end Go.Proofs.Ytgifjnniohcacaa

/-
  SpareAgain, no act; whole.
-/
namespace Go.Proofs.Ytgifjnniohcacaa
open Go.ChangeShapes Go.WideShapes Go.ChangeAt Go.RowKit
set_option linter.unusedVariables false

set_option maxRecDepth 100000 in
set_option maxHeartbeats 40000000 in
theorem again_nil (x0 x1 x2 : Int) (w : World) :
    Calls Try.prog 6 #[.agg #[.int .i64 x0, .int .i64 x1, .int .i64 x2], .slice none 0 0] w fun e w' => e = .returned (.bool true) ∧ Gr [] w w' := by
  have hmn := minIsR Try.prog 0 0 20 20 rfl rfl
  have HSm := Lib.hid (fun W => small_any x0 x1 x2 W)
  have hok := small_ok x0 x1 x2
  obtain ⟨P, hP⟩ : ∃ P, P = smallP x0 x1 x2 := ⟨_, rfl⟩
  have hPb : P.a ≤ 2 ∧ P.l ≤ 4 ∧ P.s ≤ 10 := by rw [hP]; unfold smallP; simp only; omega
  rw [← hP] at HSm hok
  unfold planV at HSm
  obtain ⟨h1, h2, h3, h4, h5, h6⟩ := (okZ_iff P).1 hok
  have HOK := Lib.hid (And.intro hok (And.intro h1 (And.intro h3 (And.intro h5 hPb))))
  have HPr := Lib.hid (fun W => show Calls Try.prog 27 #[.agg #[.int .i64 P.a, .int .i64 P.l, .int .i64 P.s]] W _ from pair_any P hok (by omega) W)
  have HG0 := Lib.hid ((Gr.refl [] w).alloc (Obj.cells #[.int .i64 x0, .int .i64 x1, .int .i64 x2] 22))
  clear hP hok h1 h2 h3 h4 h5 h6 hPb
  go_enter Try.func6, Try.ntmps6
  go_wp2_with fail
  generalize (w.alloc (Obj.cells #[.int .i64 x0, .int .i64 x1, .int .i64 x2] 22)) = w1 at *
  refine (HSm.out _).mono ?_
  rintro e w2 ⟨rfl, b2⟩
  have HG2 := Lib.hid (HG0.out.nextB b2)
  have HHo := Holds.new w2 #[.int .i64 P.a, .int .i64 P.l, .int .i64 P.s] 24
  have HGa := Lib.hid (HG2.out.next0 ((Gr.refl [] w2).alloc (Obj.cells #[.int .i64 P.a, .int .i64 P.l, .int .i64 P.s] 24)))
  clear b2 HG0 HG2
  go_upto_region 2 with fail
  generalize (w2.alloc (Obj.cells #[.int .i64 P.a, .int .i64 P.l, .int .i64 P.s] 24)) = w3 at *
  obtain ⟨pb, hpb⟩ : ∃ pb, w2.heap.size = pb := ⟨_, rfl⟩
  rw [hpb] at HHo ⊢
  clear hpb
  have p0 := HHo.cell 0
  have p1 := HHo.cell 1
  have p2 := HHo.cell 2
  have HH3 := Lib.hid HHo
  clear HHo
  go_wp2_with fail
  refine (HPr.out _).mono ?_
  rintro e w4 ⟨a, q, r, F, rfl, d4, k4, r4, ar, qr, ti, zf, bf, la, lq, lr, g4⟩
  have HLO := Lib.hid (And.intro (show ∀ x ∈ a.all, w.heap.size ≤ x from fun x hx => Nat.le_trans HGa.out.size (la x hx)) (And.intro (show ∀ x ∈ q.all, w.heap.size ≤ x from fun x hx => Nat.le_trans HGa.out.size (lq x hx)) (And.intro (show pb ∉ a.all from fun c => by have := la _ c; have := HH3.out.lt; omega) (show pb ∉ q.all from fun c => by have := lq _ c; have := HH3.out.lt; omega))))
  have H4 := Lib.hid (And.intro d4 (And.intro k4 (And.intro ti (And.intro bf (And.intro (HH3.out.gr0 g4) (HGa.out.trans g4))))))
  clear d4 k4 r4 ar qr ti zf bf la lq lr g4 p0 p1 p2 HH3 HGa HPr HSm
  go_wp2_with fail
  refine (wakes05 _).mono ?_
  rintro e w5 ⟨rfl, g5⟩
  have H5 := Lib.hid (And.intro (H4.out.1.gr0 g5) (And.intro (H4.out.2.1.gr0 g5) (And.intro H4.out.2.2.1 (And.intro H4.out.2.2.2.1 (And.intro (H4.out.2.2.2.2.1.gr0 g5) (H4.out.2.2.2.2.2.trans g5))))))
  clear g5 H4
  have p0 := H5.out.2.2.2.2.1.cell 0
  have p1 := H5.out.2.2.2.2.1.cell 1
  have p2 := H5.out.2.2.2.2.1.cell 2
  have hs0 : 0 ≤ P.s ∧ P.s ≤ 10 := ⟨HOK.out.2.2.2.1, HOK.out.2.2.2.2.2.2⟩
  obtain ⟨hs0, hs1⟩ := hs0
  go_wp2_with fail
  refine wp_loop_rounds 1 ?_
  rw [rounds_succ]
  go_wp2_with fail
  go_ret
  exact ⟨rfl, H5.out.2.2.2.2.2⟩
set_option maxRecDepth 100000 in
set_option maxHeartbeats 40000000 in
theorem again_empty (x0 x1 x2 : Int) (ad : Addr) (cap : Nat) (w : World) (hmax : cap ≤ maxLen) :
    Calls Try.prog 6 #[.agg #[.int .i64 x0, .int .i64 x1, .int .i64 x2], .slice (some ad) 0 cap] w fun e w' => e = .returned (.bool true) ∧ Gr [] w w' := by
  have hmn := minIsR Try.prog 0 0 20 20 rfl rfl
  unfold maxLen at hmax
  have HSm := Lib.hid (fun W => small_any x0 x1 x2 W)
  have hok := small_ok x0 x1 x2
  obtain ⟨P, hP⟩ : ∃ P, P = smallP x0 x1 x2 := ⟨_, rfl⟩
  have hPb : P.a ≤ 2 ∧ P.l ≤ 4 ∧ P.s ≤ 10 := by rw [hP]; unfold smallP; simp only; omega
  rw [← hP] at HSm hok
  unfold planV at HSm
  obtain ⟨h1, h2, h3, h4, h5, h6⟩ := (okZ_iff P).1 hok
  have HOK := Lib.hid (And.intro hok (And.intro h1 (And.intro h3 (And.intro h5 hPb))))
  have HPr := Lib.hid (fun W => show Calls Try.prog 27 #[.agg #[.int .i64 P.a, .int .i64 P.l, .int .i64 P.s]] W _ from pair_any P hok (by omega) W)
  have HG0 := Lib.hid ((Gr.refl [] w).alloc (Obj.cells #[.int .i64 x0, .int .i64 x1, .int .i64 x2] 22))
  clear hP hok h1 h2 h3 h4 h5 h6 hPb
  go_enter Try.func6, Try.ntmps6
  go_wp2_with fail
  generalize (w.alloc (Obj.cells #[.int .i64 x0, .int .i64 x1, .int .i64 x2] 22)) = w1 at *
  refine (HSm.out _).mono ?_
  rintro e w2 ⟨rfl, b2⟩
  have HG2 := Lib.hid (HG0.out.nextB b2)
  have HHo := Holds.new w2 #[.int .i64 P.a, .int .i64 P.l, .int .i64 P.s] 24
  have HGa := Lib.hid (HG2.out.next0 ((Gr.refl [] w2).alloc (Obj.cells #[.int .i64 P.a, .int .i64 P.l, .int .i64 P.s] 24)))
  clear b2 HG0 HG2
  go_upto_region 2 with fail
  generalize (w2.alloc (Obj.cells #[.int .i64 P.a, .int .i64 P.l, .int .i64 P.s] 24)) = w3 at *
  obtain ⟨pb, hpb⟩ : ∃ pb, w2.heap.size = pb := ⟨_, rfl⟩
  rw [hpb] at HHo ⊢
  clear hpb
  have p0 := HHo.cell 0
  have p1 := HHo.cell 1
  have p2 := HHo.cell 2
  have HH3 := Lib.hid HHo
  clear HHo
  go_wp2_with fail
  refine (HPr.out _).mono ?_
  rintro e w4 ⟨a, q, r, F, rfl, d4, k4, r4, ar, qr, ti, zf, bf, la, lq, lr, g4⟩
  have HLO := Lib.hid (And.intro (show ∀ x ∈ a.all, w.heap.size ≤ x from fun x hx => Nat.le_trans HGa.out.size (la x hx)) (And.intro (show ∀ x ∈ q.all, w.heap.size ≤ x from fun x hx => Nat.le_trans HGa.out.size (lq x hx)) (And.intro (show pb ∉ a.all from fun c => by have := la _ c; have := HH3.out.lt; omega) (show pb ∉ q.all from fun c => by have := lq _ c; have := HH3.out.lt; omega))))
  have H4 := Lib.hid (And.intro d4 (And.intro k4 (And.intro ti (And.intro bf (And.intro (HH3.out.gr0 g4) (HGa.out.trans g4))))))
  clear d4 k4 r4 ar qr ti zf bf la lq lr g4 p0 p1 p2 HH3 HGa HPr HSm
  go_wp2_with fail
  refine (wakes05 _).mono ?_
  rintro e w5 ⟨rfl, g5⟩
  have H5 := Lib.hid (And.intro (H4.out.1.gr0 g5) (And.intro (H4.out.2.1.gr0 g5) (And.intro H4.out.2.2.1 (And.intro H4.out.2.2.2.1 (And.intro (H4.out.2.2.2.2.1.gr0 g5) (H4.out.2.2.2.2.2.trans g5))))))
  clear g5 H4
  have p0 := H5.out.2.2.2.2.1.cell 0
  have p1 := H5.out.2.2.2.2.1.cell 1
  have p2 := H5.out.2.2.2.2.1.cell 2
  have hs0 : 0 ≤ P.s ∧ P.s ≤ 10 := ⟨HOK.out.2.2.2.1, HOK.out.2.2.2.2.2.2⟩
  obtain ⟨hs0, hs1⟩ := hs0
  go_wp2_with fail
  refine wp_loop_rounds 1 ?_
  rw [rounds_succ]
  go_wp2_with fail
  go_ret
  exact ⟨rfl, H5.out.2.2.2.2.2⟩
theorem walk_SpareAgain (a0 : List Int) (v1 : Value) {w : World} (l0 : a0.length = 3) (w0 : ∀ x ∈ a0, (Lit.int .i64 x).wf = true) (s1 : SlL w v1) :
    Calls Try.prog 6 #[.agg (a0.map (Value.int .i64)).toArray, v1] w fun e w' => e = .returned (.bool true) ∧ Below w.heap.size w w' := by
  match a0, l0 with
  | [x, y, z], _ =>
    rcases s1 with ⟨ao, cap, rfl, hn, hm⟩ | ⟨b, off, n, cap, xs, rfl, h1, h2, h3, h4, h5⟩
    · cases ao with
      | none =>
        obtain rfl := hn rfl
        exact (again_nil x y z w).mono fun _ _ q => ⟨q.1, q.2.below0⟩
      | some ad => exact (again_empty x y z ad cap w hm).mono fun _ _ q => ⟨q.1, q.2.below0⟩
    · exact (again_some x y z b off n cap xs w h1 h2 h3 h4 h5).mono fun _ _ q => ⟨q.1, q.2.below0⟩
end Go.Proofs.Ytgifjnniohcacaa
