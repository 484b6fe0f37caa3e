/-
  SparePlays.
-/
import Derived.Test.YtgifjnniohcacaaGreatMgQ
import Derived.Test.YtgifjnniohcacaaGreatSpZ
import Derived.Test.YtgifjnniohcacaaGreatMgI
import Derived.Test.YtgifjnniohcacaaGreatMgO
import Derived.Test.YtgifjnniohcacaaGreatMgAa
import Derived.Deep.CutBlock
namespace Go.Proofs.YtgifjnniohcacaaGreat
open Go.ChangeShapes Go.WideShapes Go.ChangeAt Go.RowKit
set_option linter.unusedVariables false

theorem readR_on {D : DevS} {p : PlanZ} {B : BkS} {i : Int} (ho : D.off = false) (hi : inP p i) : readR D p B i = (⟨(getT D (placeP p B i).toNat).toArray⟩, 0) := by
  unfold readR; rw [if_pos hi, ho]; simp
theorem readR_no {D : DevS} {p : PlanZ} {B : BkS} {i : Int} (hi : ¬ inP p i) : readR D p B i = (⟨#[]⟩, 3) := by
  unfold readR; rw [if_neg hi]
set_option maxRecDepth 100000 in
set_option maxHeartbeats 40000000 in
theorem plays5_some (x0 x1 x2 : Int) (b off L cap : Nat) (acts : Nat → ActL) (w : World) (hpos : 0 < L) (hcap : L ≤ cap) (hmax : cap ≤ maxLen) (hlt : b < w.heap.size) (hx : ∀ i, i < L → ActLIs w (acts i) ∧ ActLAt w b (off + i * 6) (acts i)) :
    Calls Tryz.prog 3 #[.agg #[.int .i64 x0, .int .i64 x1, .int .i64 x2], .slice (some ⟨b, off, none⟩) L cap] w fun e w' => e = .returned (.bool true) ∧ Gr [] w w' := by
  obtain ⟨M, hM⟩ : ∃ M, M = min L 40 := ⟨_, rfl⟩
  have hmn := minIsR Tryz.prog L M 40 40 rfl hM
  have hM1 : M ≤ L := by omega
  have hM2 : M ≤ 40 := by omega
  have HX := Lib.hid hx
  unfold maxLen at hmax
  clear hx hM
  have HSm := Lib.hid (fun W => small_any x0 x1 x2 W)
  have hok := small_ok x0 x1 x2
  obtain ⟨P, hP⟩ : ∃ P, P = smallP x0 x1 x2 := ⟨_, rfl⟩
  have hPb : P.a ≤ 2 ∧ P.l ≤ 4 ∧ P.s ≤ 10 := by rw [hP]; unfold smallP; simp only; omega
  rw [← hP] at HSm hok
  unfold planV at HSm
  obtain ⟨h1, h2, h3, h4, h5, h6⟩ := (okZ_iff P).1 hok
  have HOK := Lib.hid (And.intro hok (And.intro h1 (And.intro h3 (And.intro h5 hPb))))
  have HPr := Lib.hid (fun W => show Calls Tryz.prog 5 #[.agg #[.int .i64 P.a, .int .i64 P.l, .int .i64 P.s]] W _ from pair_any P hok (by omega) W)
  have HG0 := Lib.hid ((Gr.refl [] w).alloc (Obj.cells #[.int .i64 x0, .int .i64 x1, .int .i64 x2] 22))
  clear hP hok h1 h2 h3 h4 h5 h6 hPb
  go_enter Tryz.func3, Tryz.ntmps3
  go_wp2_with fail
  generalize (w.alloc (Obj.cells #[.int .i64 x0, .int .i64 x1, .int .i64 x2] 22)) = w1 at *
  refine (HSm.out _).mono ?_
  rintro e w2 ⟨rfl, b2⟩
  have HG2 := Lib.hid (HG0.out.nextB b2)
  have HHo := Holds.new w2 #[.int .i64 P.a, .int .i64 P.l, .int .i64 P.s] 25
  have HGa := Lib.hid (HG2.out.next0 ((Gr.refl [] w2).alloc (Obj.cells #[.int .i64 P.a, .int .i64 P.l, .int .i64 P.s] 25)))
  clear b2 HG0 HG2
  go_upto_region 2 with fail
  generalize (w2.alloc (Obj.cells #[.int .i64 P.a, .int .i64 P.l, .int .i64 P.s] 25)) = w3 at *
  obtain ⟨pb, hpb⟩ : ∃ pb, w2.heap.size = pb := ⟨_, rfl⟩
  rw [hpb] at HHo ⊢
  clear hpb
  have p0 := HHo.cell 0
  have p1 := HHo.cell 1
  have p2 := HHo.cell 2
  have HH3 := Lib.hid HHo
  clear HHo
  go_wp2_with fail
  refine (HPr.out _).mono ?_
  rintro e w4 ⟨a, q, r, F, rfl, d4, k4, r4, ar, qr, ti, zf, bf, la, lq, lr, g4⟩
  have HSF := Lib.hid (show SPF w a r pb from ⟨ar, (fun c => by have := la _ c; have := HH3.out.lt; omega), (fun c => by have := lr _ c; have := HH3.out.lt; omega), (fun x hx => Nat.le_trans HGa.out.size (la x hx)), (fun x hx => Nat.le_trans HGa.out.size (lr x hx))⟩)
  have HSD := Lib.hid (show SPD w w4 a r P pb F 20000 from ⟨d4, r4, bf, HH3.out.gr0 g4, HGa.out.trans g4⟩)
  have HSQ := Lib.hid (show SPQ w w4 a r P pb q ⟨0, fun _ => none⟩ 64 from ⟨k4.moreN _ (by omega), qr, (fun x hx => Nat.le_trans HGa.out.size (lq x hx)), (fun c => by have := lq _ c; have := HH3.out.lt; omega)⟩)
  have HON := Lib.hid (show OnS P F ⟨0, fun _ => none⟩ from ⟨⟨zf.calm.off, zf.calm.buf⟩, ti.congr HOK.out.1 (bare_calm F) rfl rfl rfl⟩)
  clear d4 k4 r4 ar qr ti zf bf la lq lr g4 p0 p1 p2 HH3 HGa HPr HSm
  go_wp2_with fail
  refine (wakes05 _).mono ?_
  rintro e w5 ⟨rfl, g5⟩
  have HSD := Lib.hid (HSD.out.gr0 g5)
  have HSQ := Lib.hid (HSQ.out.gr0 g5)
  clear g5
  go_wp2_with fail
  refine (media5_any a r F _ HSD.out.dev HSD.out.ref).mono ?_
  rintro e w6 ⟨rfl, g6⟩
  have HSD := Lib.hid (HSD.out.gr0 g6)
  have HSQ := Lib.hid (HSQ.out.gr0 g6)
  clear g6
  have p0 := HSD.out.pl.cell 0
  have p1 := HSD.out.pl.cell 1
  have p2 := HSD.out.pl.cell 2
  have hs0 : 0 ≤ P.s ∧ P.s ≤ 10 := ⟨HOK.out.2.2.2.1, HOK.out.2.2.2.2.2.2⟩
  obtain ⟨hs0, hs1⟩ := hs0
  go_wp2_with fail
  clear hmn p0 p1 p2
  have HTB := Lib.hid (show (P.s + 7) / 8 = tabZ P from rfl)
  go_loopw [7, 58] (fun bv i wr => ∃ (k : Nat) (D : DevS) (B : BkS) (q : BkA), k ≤ M ∧ i = .int .i64 k ∧ bv = .pointer (some ⟨q.b, 0, none⟩) ∧ SPD w wr a r P pb D (20000 + 1500 * k) ∧ SPQ w wr a r P pb q B (64 * k + 64) ∧ OnS P D B) (fun _ i _ => M - (intOf i).toNat)
  case atStart => exact ⟨0, F, ⟨0, fun _ => none⟩, q, by omega, rfl, rfl, HSD.out, HSQ.out, HON.out⟩
  case round =>
    clear HSD HSQ HON
    obtain ⟨k, D, B, q, hk, rfl, rfl, sd, sq, on⟩ := hrel
    by_cases hkM : k < M
    · have hx := HX.out k (by omega)
      have HA := Lib.hid hx.1
      obtain ⟨e0, e1, e2, e3, e4, e5⟩ := hx.2
      have g6 := sd.gr
      have e0 := (g6.cell0 hlt).trans e0
      have e1 := (g6.cell0 hlt).trans e1
      have e2 := (g6.cell0 hlt).trans e2
      have e3 := (g6.cell0 hlt).trans e3
      have e4 := (g6.cell0 hlt).trans e4
      have e5 := (g6.cell0 hlt).trans e5
      obtain ⟨x, hxe⟩ : ∃ x, acts k = x := ⟨_, rfl⟩
      rw [hxe] at HA e0 e1 e2 e3 e4 e5
      clear hx hxe g6
      obtain ⟨xd, xz, xk, xv, xs, xao, xkl, xkc, xkp⟩ := x
      dsimp only at e0 e1 e2 e3 e4 e5
      have hkb : (k : Int) < (M : Int) := by omega
      have hk0 : (0 : Int) ≤ (k : Int) := by omega
      obtain ⟨m8, hm8⟩ : ∃ m, m = min xs.size 80 := ⟨_, rfl⟩
      have hmn := minIsR Tryz.prog xs.size m8 80 80 rfl hm8
      have hm8a : m8 ≤ xs.size := by omega
      have hxsz : xs.size ≤ 9223372036854775807 := by have := HA.out.2.2.2.2.1; unfold maxLen at this; omega
      have HM8 := Lib.hid (show m8 ≤ 80 by omega)
      have hmx := max0 Tryz.prog
      have hmr := max0r Tryz.prog
      have hd0 := mx_nonneg xd
      have hs : mx xd % 7 = 0 ∨ mx xd % 7 = 1 ∨ mx xd % 7 = 2 ∨ mx xd % 7 = 3 ∨ mx xd % 7 = 4 ∨ mx xd % 7 = 5 ∨ mx xd % 7 = 6 := by omega
      have X := Holds.new wr #[Value.int .i64 xd, .int .i64 xz, .int .i64 xk, .int .u64 (xv : Int), .string xs, .slice xao xkl xkc] 37
      have gA := (Gr.refl [] wr).alloc (Obj.cells #[Value.int .i64 xd, .int .i64 xz, .int .i64 xk, .int .u64 (xv : Int), .string xs, .slice xao xkl xkc] 37)
      have HSD := Lib.hid (sd.gr0 gA)
      have HSQ := Lib.hid (sq.gr0 gA)
      have HON := Lib.hid on
      have HB7 := Lib.hid (show wr.heap.size ∉ a.all ∧ wr.heap.size ∉ r.all ∧ wr.heap.size ∉ q.all ∧ wr.heap.size ≠ pb from ⟨fun c => by have := sd.dev.lt _ c; omega, fun c => by have := sd.ref.lt _ c; omega, fun c => by have := sq.bk.lt _ c; omega, fun c => by have := sd.pl.lt; omega⟩)
      have HW7 := Lib.hid (show w.heap.size ≤ wr.heap.size from sd.gr.size)
      have HKI := Lib.hid (show ∀ W, Gr [] w W → KeepIs W (.slice xao xkl xkc) xkl (fun j => if j < xkl then xkp j else false) from fun W g => ⟨xao, xkc, rfl, fun j hj => by
        obtain ⟨b', o', q1, q2, q3⟩ := HA.out.2.2.2.2.2.1 j hj
        refine ⟨b', o', q1, Nat.lt_of_lt_of_le q2 g.size, ?_⟩
        rw [g.cell0 q2, q3]
        show some (Value.bool (xkp j)) = some (Value.bool (if j < xkl then xkp j else false))
        rw [if_pos hj], (fun j hj => if_neg (by omega)), Nat.le_trans HA.out.2.2.2.2.2.2.1 HA.out.2.2.2.2.2.2.2.1⟩)
      have HKP := Lib.hid (show ∀ j, j < xkl → ∃ b o, xao = some ⟨b, o, none⟩ ∧ b < w.heap.size ∧ w.cell? ⟨b, o + j, none⟩ = some (.bool (xkp j)) from HA.out.2.2.2.2.2.1)
      clear sd sq on gA hm8
      go_upto_block 2 with fail
      clear e0 e1 e2 e3 e4 e5 hmn
      generalize wr.alloc (Obj.cells #[Value.int .i64 xd, .int .i64 xz, .int .i64 xk, .int .u64 (xv : Int), .string xs, .slice xao xkl xkc] 37) = wa at *
      obtain ⟨b7, hb7⟩ : ∃ b7, wr.heap.size = b7 := ⟨_, rfl⟩
      rw [hb7] at X HB7 HW7 ⊢
      clear hb7
      obtain ⟨S, hS⟩ : ∃ S, xs.extract 0 m8 = S := ⟨_, rfl⟩
      have HSZ := Lib.hid (show S.size ≤ 80 by rw [← hS, ByteArray.size_extract]; have := HM8.out; omega)
      try rw [hS]
      clear hS
      have HFL := Lib.hid (fun W => full05 S W (by have := HSZ.out; omega))
      have k0 := X.cell 0
      have k1 := X.cell 1
      have k2 := X.cell 2
      have k3 := X.cell 3
      have k5 := X.cell 5
      have HX7 := Lib.hid X
      clear X
      go_cut [7, 14] (fun bv sv wz => sv = .bool true ∧ ∃ (D' : DevS) (B' : BkS) (q' : BkA), bv = .pointer (some ⟨q'.b, 0, none⟩) ∧ SPD w wz a r P pb D' (20000 + 1500 * k + 1470) ∧ SPQ w wz a r P pb q' B' (64 * k + 128) ∧ (OnS P D' B' ∨ OffS P D') ∧ wz.cell? ⟨b7, 5, none⟩ = some (.slice xao xkl xkc))
      case first =>
        rcases hs with hs | hs | hs | hs | hs | hs | hs
        · as_aux_lemma =>
            go_wp2_with fail
            clear hs hmx hmr k0 k2 k3
            have gd : Gr [] wa wa.drew := (Gr.refl [] wa).drew
            have HKc := Lib.hid (show ∀ W W' : World, (W.cell? ⟨b7, 1, none⟩ = some (.int .i64 xz) ∧ W.cell? ⟨b7, 5, none⟩ = some (.slice xao xkl xkc) ∧ W.cell? ⟨pb, 0, none⟩ = some (.int .i64 P.a) ∧ W.cell? ⟨pb, 1, none⟩ = some (.int .i64 P.l) ∧ W.cell? ⟨pb, 2, none⟩ = some (.int .i64 P.s)) → ∀ bs, Gr bs W W' → b7 ∉ bs → pb ∉ bs → (W'.cell? ⟨b7, 1, none⟩ = some (.int .i64 xz) ∧ W'.cell? ⟨b7, 5, none⟩ = some (.slice xao xkl xkc) ∧ W'.cell? ⟨pb, 0, none⟩ = some (.int .i64 P.a) ∧ W'.cell? ⟨pb, 1, none⟩ = some (.int .i64 P.l) ∧ W'.cell? ⟨pb, 2, none⟩ = some (.int .i64 P.s)) from fun W W' q bs g hn hn2 =>
              ⟨(cell_gr g (World.block_lt_of_cell? _ _ q.1) hn).trans q.1, (cell_gr g (World.block_lt_of_cell? _ _ q.2.1) hn).trans q.2.1, (cell_gr g (World.block_lt_of_cell? _ _ q.2.2.1) hn2).trans q.2.2.1, (cell_gr g (World.block_lt_of_cell? _ _ q.2.2.2.1) hn2).trans q.2.2.2.1, (cell_gr g (World.block_lt_of_cell? _ _ q.2.2.2.2) hn2).trans q.2.2.2.2⟩)
            have hpl := HSD.out.pl.gr0 gd
            have s4 : wa.drew.cell? ⟨b7, 1, none⟩ = some (.int .i64 xz) ∧ wa.drew.cell? ⟨b7, 5, none⟩ = some (.slice xao xkl xkc) ∧ wa.drew.cell? ⟨pb, 0, none⟩ = some (.int .i64 P.a) ∧ wa.drew.cell? ⟨pb, 1, none⟩ = some (.int .i64 P.l) ∧ wa.drew.cell? ⟨pb, 2, none⟩ = some (.int .i64 P.s) := ⟨(gd.cell0 (World.block_lt_of_cell? wa _ k1)).trans k1, (gd.cell0 (World.block_lt_of_cell? wa _ k5)).trans k5, hpl.cell 0, hpl.cell 1, hpl.cell 2⟩
            clear hpl k1 k5
            obtain ⟨X, hX⟩ : ∃ X, X = writeS P xz (fullS S) D B := ⟨_, rfl⟩
            have HW := Lib.hid (fun W (q1 : BkIs W q a P B (64 * k + 64)) (q2 : DevIs W a D) => bwrite_any xz (fullS S) q1 q2 HSD.out.bd (by omega) (by rw [fullS_size]; unfold maxLen; omega) (by omega))
            have HRW := Lib.hid (fun W (q1 : RefIs W r D) => show Calls Tryz.prog 10 #[.pointer (some ⟨r.rd, 0, none⟩), .agg #[.int .i64 P.a, .int .i64 P.l, .int .i64 P.s], .int .i64 xz, .string (fullS S)] W _ from rwrite_any xz (fullS S) q1 HON.out.1 HON.out.2 HSD.out.mb HSD.out.fu (by omega) HOK.out.1 (by rw [fullS_size]; unfold maxLen; omega))
            rw [← hX] at HW HRW
            have HON2 := Lib.hid (show OnS P X.2.1 X.2.2 ∨ OffS P X.2.1 by rw [hX]; exact on_write HON.out HOK.out.1 xz (fullS S))
            clear hX
            go_region_held3 (fun w' : World => w'.cell? ⟨b7, 1, none⟩ = some (.int .i64 xz) ∧ w'.cell? ⟨b7, 5, none⟩ = some (.slice xao xkl xkc) ∧ w'.cell? ⟨pb, 0, none⟩ = some (.int .i64 P.a) ∧ w'.cell? ⟨pb, 1, none⟩ = some (.int .i64 P.l) ∧ w'.cell? ⟨pb, 2, none⟩ = some (.int .i64 P.s)) (first | assumption | go_keep) ((first
              | (go_at_call 9; refine (HFL.out _).mono ?_; rintro e w5 ⟨rfl, g5⟩; have s4 := HKc.out _ _ s4 [] g5 (by simp) (by simp); have H5 := Lib.hid g5; clear g5)
              | (go_at_call 8; refine (HW.out _ (HSQ.out.gr0 (gd.trans H5.out)).bk (HSD.out.gr0 (gd.trans H5.out)).dev).mono ?_; rintro e wp ⟨rfl, dp, bp, kp, gp⟩; have s4 := HKc.out _ _ s4 _ gp (by simp only [List.mem_append, not_or]; exact ⟨HB7.out.2.2.1, HB7.out.1⟩) (by simp only [List.mem_append, not_or]; exact ⟨HSQ.out.qp, HSF.out.pa⟩); have HP := Lib.hid (And.intro dp (And.intro bp (And.intro kp (And.intro gp (And.intro (HSD.out.gr0 (gd.trans H5.out)) (HSQ.out.gr0 (gd.trans H5.out))))))); clear dp bp kp gp)
              | (go_at_call 10; refine (HRW.out _ ((HP.out.2.2.2.2.1.mid HSF.out HP.out.2.2.2.2.2 HP.out.2.2.2.1).1.gr0 H5.out)).mono ?_; rintro e w6 ⟨rfl, r6, f6, g6⟩; have s4 := HKc.out _ _ s4 _ g6 HB7.out.2.1 HSF.out.pr; have H6 := Lib.hid (show SPD w w6 a r P pb X.2.1 (20000 + 1500 * k + 1470) ∧ SPQ w w6 a r P pb q X.2.2 (64 * k + 128) from ⟨HP.out.2.2.2.2.1.after HSF.out HP.out.2.2.2.2.2 (HP.out.1.gr0 H5.out) (HP.out.2.2.2.1.next0 H5.out) r6 g6 (HP.out.2.1.mono (by omega)), HP.out.2.2.2.2.2.after2 (HP.out.2.2.1.gr0 H5.out) g6 (by omega)⟩); clear r6 f6 g6)))
            have HZ := Lib.hid (And.intro H6.out (And.intro HON2.out s4.2.1))
            clear s4 H6 HP HON2 HW HRW
            generalize w6 = wz at *
            go_wp2_with fail
            go_meet
            exact ⟨rfl, X.2.1, X.2.2, q, rfl, HZ.out.1.1, HZ.out.1.2, HZ.out.2.1, HZ.out.2.2⟩
        · as_aux_lemma =>
            go_wp2_with fail
            clear hs hmx hmr k0 k2 k3
            have gd : Gr [] wa wa.drew := (Gr.refl [] wa).drew
            have HKc := Lib.hid (show ∀ W W' : World, (W.cell? ⟨b7, 1, none⟩ = some (.int .i64 xz) ∧ W.cell? ⟨b7, 5, none⟩ = some (.slice xao xkl xkc) ∧ W.cell? ⟨pb, 0, none⟩ = some (.int .i64 P.a) ∧ W.cell? ⟨pb, 1, none⟩ = some (.int .i64 P.l) ∧ W.cell? ⟨pb, 2, none⟩ = some (.int .i64 P.s)) → ∀ bs, Gr bs W W' → b7 ∉ bs → pb ∉ bs → (W'.cell? ⟨b7, 1, none⟩ = some (.int .i64 xz) ∧ W'.cell? ⟨b7, 5, none⟩ = some (.slice xao xkl xkc) ∧ W'.cell? ⟨pb, 0, none⟩ = some (.int .i64 P.a) ∧ W'.cell? ⟨pb, 1, none⟩ = some (.int .i64 P.l) ∧ W'.cell? ⟨pb, 2, none⟩ = some (.int .i64 P.s)) from fun W W' q bs g hn hn2 =>
              ⟨(cell_gr g (World.block_lt_of_cell? _ _ q.1) hn).trans q.1, (cell_gr g (World.block_lt_of_cell? _ _ q.2.1) hn).trans q.2.1, (cell_gr g (World.block_lt_of_cell? _ _ q.2.2.1) hn2).trans q.2.2.1, (cell_gr g (World.block_lt_of_cell? _ _ q.2.2.2.1) hn2).trans q.2.2.2.1, (cell_gr g (World.block_lt_of_cell? _ _ q.2.2.2.2) hn2).trans q.2.2.2.2⟩)
            have hpl := HSD.out.pl.gr0 gd
            have s4 : wa.drew.cell? ⟨b7, 1, none⟩ = some (.int .i64 xz) ∧ wa.drew.cell? ⟨b7, 5, none⟩ = some (.slice xao xkl xkc) ∧ wa.drew.cell? ⟨pb, 0, none⟩ = some (.int .i64 P.a) ∧ wa.drew.cell? ⟨pb, 1, none⟩ = some (.int .i64 P.l) ∧ wa.drew.cell? ⟨pb, 2, none⟩ = some (.int .i64 P.s) := ⟨(gd.cell0 (World.block_lt_of_cell? wa _ k1)).trans k1, (gd.cell0 (World.block_lt_of_cell? wa _ k5)).trans k5, hpl.cell 0, hpl.cell 1, hpl.cell 2⟩
            clear hpl k1 k5
            obtain ⟨X, hX⟩ : ∃ X, X = writeS P xz S D B := ⟨_, rfl⟩
            have HW := Lib.hid (fun W (q1 : BkIs W q a P B (64 * k + 64)) (q2 : DevIs W a D) => bwrite_any xz S q1 q2 HSD.out.bd (by omega) (by have := HSZ.out; unfold maxLen; omega) (by omega))
            have HRW := Lib.hid (fun W (q1 : RefIs W r D) => show Calls Tryz.prog 10 #[.pointer (some ⟨r.rd, 0, none⟩), .agg #[.int .i64 P.a, .int .i64 P.l, .int .i64 P.s], .int .i64 xz, .string S] W _ from rwrite_any xz S q1 HON.out.1 HON.out.2 HSD.out.mb HSD.out.fu (by omega) HOK.out.1 (by have := HSZ.out; unfold maxLen; omega))
            rw [← hX] at HW HRW
            have HON2 := Lib.hid (show OnS P X.2.1 X.2.2 ∨ OffS P X.2.1 by rw [hX]; exact on_write HON.out HOK.out.1 xz S)
            clear hX
            go_region_held3 (fun w' : World => w'.cell? ⟨b7, 1, none⟩ = some (.int .i64 xz) ∧ w'.cell? ⟨b7, 5, none⟩ = some (.slice xao xkl xkc) ∧ w'.cell? ⟨pb, 0, none⟩ = some (.int .i64 P.a) ∧ w'.cell? ⟨pb, 1, none⟩ = some (.int .i64 P.l) ∧ w'.cell? ⟨pb, 2, none⟩ = some (.int .i64 P.s)) (first | assumption | go_keep) ((first
              | (go_at_call 8; refine (HW.out _ (HSQ.out.gr0 gd).bk (HSD.out.gr0 gd).dev).mono ?_; rintro e wp ⟨rfl, dp, bp, kp, gp⟩; have s4 := HKc.out _ _ s4 _ gp (by simp only [List.mem_append, not_or]; exact ⟨HB7.out.2.2.1, HB7.out.1⟩) (by simp only [List.mem_append, not_or]; exact ⟨HSQ.out.qp, HSF.out.pa⟩); have HP := Lib.hid (And.intro dp (And.intro bp (And.intro kp (And.intro gp (And.intro (HSD.out.gr0 gd) (HSQ.out.gr0 gd)))))); clear dp bp kp gp)
              | (go_at_call 10; refine (HRW.out _ ((HP.out.2.2.2.2.1.mid HSF.out HP.out.2.2.2.2.2 HP.out.2.2.2.1).1.gr0 (Gr.refl [] _))).mono ?_; rintro e w6 ⟨rfl, r6, f6, g6⟩; have s4 := HKc.out _ _ s4 _ g6 HB7.out.2.1 HSF.out.pr; have H6 := Lib.hid (show SPD w w6 a r P pb X.2.1 (20000 + 1500 * k + 1470) ∧ SPQ w w6 a r P pb q X.2.2 (64 * k + 128) from ⟨HP.out.2.2.2.2.1.after HSF.out HP.out.2.2.2.2.2 (HP.out.1.gr0 (Gr.refl [] _)) (HP.out.2.2.2.1.next0 (Gr.refl [] _)) r6 g6 (HP.out.2.1.mono (by omega)), HP.out.2.2.2.2.2.after2 (HP.out.2.2.1.gr0 (Gr.refl [] _)) g6 (by omega)⟩); clear r6 f6 g6)))
            have HZ := Lib.hid (And.intro H6.out (And.intro HON2.out s4.2.1))
            clear s4 H6 HP HON2 HW HRW
            generalize w6 = wz at *
            go_wp2_with fail
            go_meet
            exact ⟨rfl, X.2.1, X.2.2, q, rfl, HZ.out.1.1, HZ.out.1.2, HZ.out.2.1, HZ.out.2.2⟩
        · as_aux_lemma =>
            go_wp2_with fail
            clear hs hmx hmr k0
            have gd : Gr [] wa wa.drew := (Gr.refl [] wa).drew
            have HKc := Lib.hid (show ∀ W W' : World, (W.cell? ⟨b7, 1, none⟩ = some (.int .i64 xz) ∧ W.cell? ⟨b7, 2, none⟩ = some (.int .i64 xk) ∧ W.cell? ⟨b7, 3, none⟩ = some (.int .u64 (xv : Int)) ∧ W.cell? ⟨b7, 5, none⟩ = some (.slice xao xkl xkc) ∧ W.cell? ⟨pb, 0, none⟩ = some (.int .i64 P.a) ∧ W.cell? ⟨pb, 1, none⟩ = some (.int .i64 P.l) ∧ W.cell? ⟨pb, 2, none⟩ = some (.int .i64 P.s)) → ∀ bs, Gr bs W W' → b7 ∉ bs → pb ∉ bs → (W'.cell? ⟨b7, 1, none⟩ = some (.int .i64 xz) ∧ W'.cell? ⟨b7, 2, none⟩ = some (.int .i64 xk) ∧ W'.cell? ⟨b7, 3, none⟩ = some (.int .u64 (xv : Int)) ∧ W'.cell? ⟨b7, 5, none⟩ = some (.slice xao xkl xkc) ∧ W'.cell? ⟨pb, 0, none⟩ = some (.int .i64 P.a) ∧ W'.cell? ⟨pb, 1, none⟩ = some (.int .i64 P.l) ∧ W'.cell? ⟨pb, 2, none⟩ = some (.int .i64 P.s)) from fun W W' q bs g hn hn2 =>
              ⟨(cell_gr g (World.block_lt_of_cell? _ _ q.1) hn).trans q.1, (cell_gr g (World.block_lt_of_cell? _ _ q.2.1) hn).trans q.2.1, (cell_gr g (World.block_lt_of_cell? _ _ q.2.2.1) hn).trans q.2.2.1, (cell_gr g (World.block_lt_of_cell? _ _ q.2.2.2.1) hn).trans q.2.2.2.1, (cell_gr g (World.block_lt_of_cell? _ _ q.2.2.2.2.1) hn2).trans q.2.2.2.2.1, (cell_gr g (World.block_lt_of_cell? _ _ q.2.2.2.2.2.1) hn2).trans q.2.2.2.2.2.1, (cell_gr g (World.block_lt_of_cell? _ _ q.2.2.2.2.2.2) hn2).trans q.2.2.2.2.2.2⟩)
            have hpl := HSD.out.pl.gr0 gd
            have s4 : wa.drew.cell? ⟨b7, 1, none⟩ = some (.int .i64 xz) ∧ wa.drew.cell? ⟨b7, 2, none⟩ = some (.int .i64 xk) ∧ wa.drew.cell? ⟨b7, 3, none⟩ = some (.int .u64 (xv : Int)) ∧ wa.drew.cell? ⟨b7, 5, none⟩ = some (.slice xao xkl xkc) ∧ wa.drew.cell? ⟨pb, 0, none⟩ = some (.int .i64 P.a) ∧ wa.drew.cell? ⟨pb, 1, none⟩ = some (.int .i64 P.l) ∧ wa.drew.cell? ⟨pb, 2, none⟩ = some (.int .i64 P.s) := ⟨(gd.cell0 (World.block_lt_of_cell? wa _ k1)).trans k1, (gd.cell0 (World.block_lt_of_cell? wa _ k2)).trans k2, (gd.cell0 (World.block_lt_of_cell? wa _ k3)).trans k3, (gd.cell0 (World.block_lt_of_cell? wa _ k5)).trans k5, hpl.cell 0, hpl.cell 1, hpl.cell 2⟩
            clear hpl k1 k2 k3 k5
            obtain ⟨X, hX⟩ : ∃ X, X = writeWordS P xz xk xv D B := ⟨_, rfl⟩
            have HW := Lib.hid (fun W (q1 : BkIs W q a P B (64 * k + 64)) (q2 : DevIs W a D) => bww_any xz xk xv q1 q2 HSD.out.bd (by omega) HA.out.2.2.2.1 HON.out.2.fits (by omega))
            have HRW := Lib.hid (fun W (q1 : RefIs W r D) => show Calls Tryz.prog 12 #[.pointer (some ⟨r.rd, 0, none⟩), .agg #[.int .i64 P.a, .int .i64 P.l, .int .i64 P.s], .int .i64 xz, .int .i64 xk, .int .u64 (xv : Int)] W _ from rww_any xz xk xv q1 HON.out.1 HON.out.2 HSD.out.mb HSD.out.fu (by omega) HOK.out.1 HA.out.2.2.2.1)
            rw [← hX] at HW HRW
            have HON2 := Lib.hid (show OnS P X.2.1 X.2.2 ∨ OffS P X.2.1 by rw [hX]; exact on_ww HON.out HOK.out.1 HSD.out.mb xz xk HA.out.2.2.2.1)
            clear hX
            go_region_held3 (fun w' : World => w'.cell? ⟨b7, 1, none⟩ = some (.int .i64 xz) ∧ w'.cell? ⟨b7, 2, none⟩ = some (.int .i64 xk) ∧ w'.cell? ⟨b7, 3, none⟩ = some (.int .u64 (xv : Int)) ∧ w'.cell? ⟨b7, 5, none⟩ = some (.slice xao xkl xkc) ∧ w'.cell? ⟨pb, 0, none⟩ = some (.int .i64 P.a) ∧ w'.cell? ⟨pb, 1, none⟩ = some (.int .i64 P.l) ∧ w'.cell? ⟨pb, 2, none⟩ = some (.int .i64 P.s)) (first | assumption | go_keep) ((first
              | (go_at_call 11; refine (HW.out _ (HSQ.out.gr0 gd).bk (HSD.out.gr0 gd).dev).mono ?_; rintro e wp ⟨rfl, dp, bp, kp, gp⟩; have s4 := HKc.out _ _ s4 _ gp (by simp only [List.mem_append, not_or]; exact ⟨HB7.out.2.2.1, HB7.out.1⟩) (by simp only [List.mem_append, not_or]; exact ⟨HSQ.out.qp, HSF.out.pa⟩); have HP := Lib.hid (And.intro dp (And.intro bp (And.intro kp (And.intro gp (And.intro (HSD.out.gr0 gd) (HSQ.out.gr0 gd)))))); clear dp bp kp gp)
              | (go_at_call 12; refine (HRW.out _ ((HP.out.2.2.2.2.1.mid HSF.out HP.out.2.2.2.2.2 HP.out.2.2.2.1).1.gr0 (Gr.refl [] _))).mono ?_; rintro e w6 ⟨rfl, r6, f6, g6⟩; have s4 := HKc.out _ _ s4 _ g6 HB7.out.2.1 HSF.out.pr; have H6 := Lib.hid (show SPD w w6 a r P pb X.2.1 (20000 + 1500 * k + 1470) ∧ SPQ w w6 a r P pb q X.2.2 (64 * k + 128) from ⟨HP.out.2.2.2.2.1.after HSF.out HP.out.2.2.2.2.2 (HP.out.1.gr0 (Gr.refl [] _)) (HP.out.2.2.2.1.next0 (Gr.refl [] _)) r6 g6 (HP.out.2.1.mono (by omega)), HP.out.2.2.2.2.2.after2 (HP.out.2.2.1.gr0 (Gr.refl [] _)) g6 (by omega)⟩); clear r6 f6 g6)))
            have HZ := Lib.hid (And.intro H6.out (And.intro HON2.out s4.2.2.2.1))
            clear s4 H6 HP HON2 HW HRW
            generalize w6 = wz at *
            go_wp2_with fail
            go_meet
            exact ⟨rfl, X.2.1, X.2.2, q, rfl, HZ.out.1.1, HZ.out.1.2, HZ.out.2.1, HZ.out.2.2⟩
        · as_aux_lemma =>
            go_wp2_with fail
            clear hs hmx hmr k0 k2 k3
            have hmb := HSD.out.mb
            obtain ⟨l, hM, hlu, hwh⟩ := HON.out.2.marks HON.out.1 HOK.out.1 hmb
            have HEn := Lib.hid (fun W (q1 : RefIs W r D) => show Calls Tryz.prog 14 #[.pointer (some ⟨r.rd, 0, none⟩), .agg #[.int .i64 P.a, .int .i64 P.l, .int .i64 P.s]] W _ from rentries_any q1 HON.out.1.off HOK.out.1 HON.out.2.fits hM)
            have HRd := Lib.hid (fun W (q1 : BkIs W q a P B (64 * k + 64)) (q2 : DevIs W a D) => read_any xz q1 q2 HON.out.2.fits)
            have HLf := Lib.hid (fun W (q1 : BkIs W q a P B (64 * k + 64)) => left_at q1)
            rw [← hlu] at HLf
            have HM := Lib.hid hM
            have HWH := Lib.hid hwh
            have HMB := Lib.hid hmb
            obtain ⟨N, hN⟩ : ∃ N, N = l.length := ⟨_, rfl⟩
            have hNs : (N : Int) ≤ P.s := by rw [hN]; exact hM.len
            have hsS : 0 ≤ P.s ∧ P.s ≤ 10 := ⟨HOK.out.2.2.2.1, HOK.out.2.2.2.2.2.2⟩
            obtain ⟨hsS0, hsS1⟩ := hsS
            have HNN := Lib.hid hN
            rw [← hN] at HEn HLf
            have a1 : IntKind.i64.wrap (P.s - (N : Int)) = P.s - (N : Int) := IntWalk.i64_in _ (by omega)
            have p0 := HSD.out.pl.cell 0
            have p1 := HSD.out.pl.cell 1
            have p2 := HSD.out.pl.cell 2
            clear hmb hM hlu hwh hN hNs
            by_cases hin : inP P xz
            · obtain ⟨l0, hp, hln, hl1, hl2⟩ := HON.out.2.place HOK.out.1 hin
              have hln2 : l0 < D.n := hln
              have HWi := Lib.hid (fun W (q1 : BkIs W q a P B (64 * k + 64)) => where_in xz q1 hin)
              have HWh := Lib.hid (fun W po pc (hr : RowAt W po l) => show Calls Tryz.prog 17 #[.agg #[.int .i64 P.a, .int .i64 P.l, .int .i64 P.s], .slice po N pc, .int .i64 xz] W _ by rw [HNN.out]; exact rwhere_any xz HOK.out.1 hin HM.out.len (fun j m e => (HM.out.each j m e).2) hr)
              rw [HWH.out xz hin] at HWh
              rw [readR_on HON.out.1.off hin] at HRd
              rw [hp] at HWi HWh HRd
              rw [Int.toNat_natCast] at HRd
              have HGt := Lib.hid (fun W (q1 : RefIs W r D) => rget4_yes r D l0 W q1 hln2 HON.out.1.off (fun x => by unfold loadV; rw [HON.out.1.buf]; exact HMB.out x))
              obtain ⟨i0, i9⟩ : 0 ≤ xz ∧ xz < P.l := hin
              have i9b : ¬ (P.l ≤ xz) := by omega
              clear hp hln hl1 hl2 hln2
              generalize (⟨(getT D l0).toArray⟩ : ByteArray) = GT at *
              go_wp2_with fail
              refine (HRd.out _ HSQ.out.bk HSD.out.dev).mono ?_
              rintro e w5 ⟨rfl, g5⟩
              have HG := Lib.hid g5
              clear g5
              have k1 := (HG.out.cell0 (World.block_lt_of_cell? wa _ k1)).trans k1
              have k5 := (HG.out.cell0 (World.block_lt_of_cell? wa _ k5)).trans k5
              have p0 := (HG.out.cell0 (World.block_lt_of_cell? wa _ p0)).trans p0
              have p1 := (HG.out.cell0 (World.block_lt_of_cell? wa _ p1)).trans p1
              have p2 := (HG.out.cell0 (World.block_lt_of_cell? wa _ p2)).trans p2
              go_wp2_with fail
              refine (HEn.out _ (HSD.out.gr0 HG.out).ref).mono ?_
              rintro e w6 ⟨po, pc, rfl, hrow, g6⟩
              have HRow := Lib.hid hrow
              have k1 := (g6.cell0 (World.block_lt_of_cell? w5 _ k1)).trans k1
              have k5 := (g6.cell0 (World.block_lt_of_cell? w5 _ k5)).trans k5
              have p0 := (g6.cell0 (World.block_lt_of_cell? w5 _ p0)).trans p0
              have p1 := (g6.cell0 (World.block_lt_of_cell? w5 _ p1)).trans p1
              have p2 := (g6.cell0 (World.block_lt_of_cell? w5 _ p2)).trans p2
              have HG := Lib.hid (HG.out.trans g6)
              clear hrow g6
              go_wp2_with fail
              refine (HWi.out _ (HSQ.out.gr0 HG.out).bk).mono ?_
              rintro e w7 ⟨rfl, g7⟩
              have HRow := Lib.hid (HRow.out.gr0 g7)
              have k1 := (g7.cell0 (World.block_lt_of_cell? w6 _ k1)).trans k1
              have k5 := (g7.cell0 (World.block_lt_of_cell? w6 _ k5)).trans k5
              have p0 := (g7.cell0 (World.block_lt_of_cell? w6 _ p0)).trans p0
              have p1 := (g7.cell0 (World.block_lt_of_cell? w6 _ p1)).trans p1
              have p2 := (g7.cell0 (World.block_lt_of_cell? w6 _ p2)).trans p2
              have HG := Lib.hid (HG.out.trans g7)
              clear g7
              go_wp2_with fail
              refine (HWh.out _ po pc HRow.out).mono ?_
              rintro e w8 ⟨rfl, g8⟩
              have HRow := Lib.hid (HRow.out.gr0 g8)
              have k1 := (g8.cell0 (World.block_lt_of_cell? w7 _ k1)).trans k1
              have k5 := (g8.cell0 (World.block_lt_of_cell? w7 _ k5)).trans k5
              have p0 := (g8.cell0 (World.block_lt_of_cell? w7 _ p0)).trans p0
              have p1 := (g8.cell0 (World.block_lt_of_cell? w7 _ p1)).trans p1
              have p2 := (g8.cell0 (World.block_lt_of_cell? w7 _ p2)).trans p2
              have HG := Lib.hid (HG.out.trans g8)
              clear g8
              go_wp2_with fail
              refine (HGt.out _ (HSD.out.gr0 HG.out).ref).mono ?_
              rintro e w9 ⟨rfl, g9⟩
              have HRow := Lib.hid (HRow.out.gr0 g9)
              have k1 := kp_cell ((g9.cell0 (World.block_lt_of_cell? w8 _ k1)).trans k1)
              have k5 := (g9.cell0 (World.block_lt_of_cell? w8 _ k5)).trans k5
              have p0 := kp_cell ((g9.cell0 (World.block_lt_of_cell? w8 _ p0)).trans p0)
              have p1 := kp_cell ((g9.cell0 (World.block_lt_of_cell? w8 _ p1)).trans p1)
              have p2 := kp_cell ((g9.cell0 (World.block_lt_of_cell? w8 _ p2)).trans p2)
              have HG := Lib.hid (HG.out.trans g9)
              clear g9
              have hne := kp_ne w9
              have HSQ9 := Lib.hid (HSQ.out.gr0 HG.out).bk
              go_wp2_with fail
              refine wp_region_kp (by kernel_rfl) (by kernel_rfl) ?_
              repeat (go_big_quiet_step ((rename_i x; first
                | exact kp_call x ((HWh.out _ po pc (HRow.out.gr0 (Gr.ofBelow x.h))).mono fun _ _ q => ⟨q.1, q.2.below0⟩)
                | exact kp_call x ((HLf.out _ (HSQ9.out.gr0 (Gr.ofBelow x.h))).mono fun _ _ q => ⟨q.1, q.2.below0⟩))))
              with_reducible refine wpQuiet_nil ?_
              rintro _ ⟨y, rfl⟩
              have gy : Gr [] w9 y.w := Gr.ofBelow (cs := []) y.h
              have HZ := Lib.hid (And.intro (HSD.out.gr0 (HG.out.trans gy)) (And.intro (HSQ.out.gr0 (HG.out.trans gy)) ((gy.cell0 (World.block_lt_of_cell? w9 _ k5)).trans k5)))
              clear k1 k5 p0 p1 p2 hne gy
              generalize y.w = wz at *
              go_wp2_with fail
              go_meet
              exact ⟨rfl, D, B, q, rfl, HZ.out.1.more (by omega), HZ.out.2.1.more (by omega), .inl HON.out, HZ.out.2.2⟩
            · rw [readR_no hin] at HRd
              have hor : ¬ (0 ≤ xz) ∨ 0 ≤ xz ∧ ¬ (xz < P.l) := by unfold inP at hin; omega
              clear hin
              rcases hor with i0 | ⟨i0, i9⟩
              all_goals
                go_wp2_with fail
                refine (HRd.out _ HSQ.out.bk HSD.out.dev).mono ?_
                rintro e w5 ⟨rfl, g5⟩
                have HG := Lib.hid g5
                clear g5
                have k1 := (HG.out.cell0 (World.block_lt_of_cell? wa _ k1)).trans k1
                have k5 := (HG.out.cell0 (World.block_lt_of_cell? wa _ k5)).trans k5
                have p0 := (HG.out.cell0 (World.block_lt_of_cell? wa _ p0)).trans p0
                have p1 := (HG.out.cell0 (World.block_lt_of_cell? wa _ p1)).trans p1
                have p2 := (HG.out.cell0 (World.block_lt_of_cell? wa _ p2)).trans p2
                go_wp2_with fail
                refine (HEn.out _ (HSD.out.gr0 HG.out).ref).mono ?_
                rintro e w6 ⟨po, pc, rfl, hrow, g6⟩
                have k1 := (g6.cell0 (World.block_lt_of_cell? w5 _ k1)).trans k1
                have k5 := (g6.cell0 (World.block_lt_of_cell? w5 _ k5)).trans k5
                have p0 := (g6.cell0 (World.block_lt_of_cell? w5 _ p0)).trans p0
                have p1 := (g6.cell0 (World.block_lt_of_cell? w5 _ p1)).trans p1
                have p2 := (g6.cell0 (World.block_lt_of_cell? w5 _ p2)).trans p2
                have HG := Lib.hid (HG.out.trans g6)
                clear hrow g6
                go_wp2_with fail
                have HZ := Lib.hid (And.intro (HSD.out.gr0 HG.out) (And.intro (HSQ.out.gr0 HG.out) k5))
                clear k1 k5 p0 p1 p2
                go_meet
                exact ⟨rfl, D, B, q, rfl, HZ.out.1.more (by omega), HZ.out.2.1.more (by omega), .inl HON.out, HZ.out.2.2⟩
        · as_aux_lemma =>
            have hp0 := HOK.out.2.1
            have hp1 := HOK.out.2.2.1
            have hp2 := HOK.out.2.2.2.1
            have hq0 : 0 < P.l + P.s := by omega
            have hlb : P.l ≤ 4 := HOK.out.2.2.2.2.2.1
            have hsb : P.s ≤ 10 := HOK.out.2.2.2.2.2.2
            have hab : P.a ≤ 2 := HOK.out.2.2.2.2.1
            have hz0 := mx_nonneg xz
            have w1a : IntKind.i64.wrap (P.a + (P.s + 7) / 8) = P.a + (P.s + 7) / 8 := IntWalk.i64_in _ (by omega)
            have w2a : IntKind.i64.wrap (P.l + P.s) = P.l + P.s := IntWalk.i64_in _ (by omega)
            have w3a : (mx xz).tmod (P.l + P.s) = mx xz % (P.l + P.s) := Int.tmod_eq_emod_of_nonneg hz0
            have m1 := Int.emod_nonneg (mx xz) (show P.l + P.s ≠ 0 by omega)
            have m2 := Int.emod_lt_of_pos (mx xz) hq0
            obtain ⟨i4, hi4⟩ : ∃ i4 : Nat, P.a + (P.s + 7) / 8 + mx xz % (P.l + P.s) = (i4 : Int) := ⟨(P.a + (P.s + 7) / 8 + mx xz % (P.l + P.s)).toNat, by omega⟩
            have w4a : IntKind.i64.wrap (P.a + (P.s + 7) / 8 + mx xz % (P.l + P.s)) = (i4 : Int) := by rw [hi4]; exact IntWalk.i64_in _ (by omega)
            have hfit : P.a + sizeZ P ≤ (D.n : Int) := HON.out.2.fits
            have hsz : sizeZ P = tabZ P + P.l + P.s := by unfold sizeZ; rw [if_pos HOK.out.1]
            have htb : tabZ P = (P.s + 7) / 8 := rfl
            have HIN := Lib.hid (show i4 < D.n by omega)
            have HTK := Lib.hid (show P.a + tabZ P ≤ (i4 : Int) by omega)
            have hnz : ¬ (P.l + P.s = 0) := by omega
            clear hfit hsz htb hi4
            have p0 := kp_cell (HSD.out.pl.cell 0)
            have p1 := kp_cell (HSD.out.pl.cell 1)
            have p2 := kp_cell (HSD.out.pl.cell 2)
            have kk1 := kp_cell k1
            have hne := kp_ne wa
            clear k0 k1 k2 k3 hmr
            go_wp2_with fail
            refine wp_region_kp (by kernel_rfl) (by kernel_rfl) ?_
            repeat (go_big_quiet_step (fail))
            with_reducible refine wpQuiet_nil ?_
            rintro _ ⟨y, rfl⟩
            have gy : Gr [] wa y.w := Gr.ofBelow (cs := []) y.h
            have HSD := Lib.hid (HSD.out.gr0 gy)
            have HSQ := Lib.hid (HSQ.out.gr0 gy)
            have k5 := (gy.cell0 (World.block_lt_of_cell? wa _ k5)).trans k5
            clear p0 p1 p2 kk1 hne gy w1a w2a w3a w4a m1 m2 hs hmx hnz hq0 hz0 hlb hsb hab hp0 hp1 hp2
            generalize y.w = wb at *
            obtain ⟨R, hR, hS⟩ := HSD.out.ref
            have hn3 : R.n = D.n := hS.n
            have r2 := hR.c2
            rw [hn3] at r2
            have hib : (i4 : Int) < (D.n : Int) := by have := HIN.out; omega
            obtain ⟨n, hn⟩ : ∃ n, n = D.n := ⟨_, rfl⟩
            rw [← hn] at r2 hib
            have HNN := Lib.hid hn
            clear hR hS hn3 hn
            go_wp2_with fail
            refine (break_in a D i4 _ HSD.out.dev HIN.out).mono ?_
            rintro e w5 ⟨rfl, d5, g5⟩
            have g5 := g5.mono (cs := a.all) (fun b hb => by simp at hb; subst hb; simp [DevA.all])
            obtain ⟨R, hR, hS⟩ := (HSD.out.midA HSF.out g5).1
            have H5 := Lib.hid (And.intro d5 g5)
            have k5 := (cell_gr g5 (World.block_lt_of_cell? wb _ k5) HB7.out.1).trans k5
            have hn3 : R.n = n := by rw [hS.n, HNN.out]
            have r2 := hR.c2
            rw [hn3] at r2
            have hi0 : (0 : Int) ≤ (i4 : Int) := by omega
            have rb := hR.badAt (i := i4) (by rw [hn3]; omega)
            have fb : w5.frozen? ⟨r.rb, i4, none⟩ = false := hR.bad.frozen i4
            have HRS := Lib.hid (And.intro hR hS)
            clear d5 g5 hR hS hn3
            generalize R.bad i4 = xb at *
            go_wp2_with fail
            have g6 : Gr r.all w5 (w5.setCell ⟨r.rb, i4, none⟩ (.bool true)) := (grSet w5 r.rb i4 (.bool true)).mono (cs := r.all) (fun b hb => by simp at hb; subst hb; simp [RefA.all])
            have H6 := Lib.hid (show RefIs (w5.setCell ⟨r.rb, i4, none⟩ (.bool true)) r { D with bad := fun j => if j = i4 then true else D.bad j } from by
              have hS := HRS.out.2
              exact ⟨_, HRS.out.1.setBad i4 true, ⟨hS.n, hS.wear, (fun l hl => by show (if l = i4 then true else R.bad l) = (if l = i4 then true else D.bad l); rw [hS.bad l hl]), hS.fuse, hS.off, hS.cnt, hS.med, hS.buf⟩⟩)
            have HZ := Lib.hid (And.intro (HSD.out.moved HSF.out H5.out.1 H5.out.2 H6.out g6 (show Bd _ (20000 + 1500 * k + 1470) from HSD.out.bd.mono (by omega))) (And.intro (HSQ.out.moved H5.out.2 g6) ((cell_gr g6 (World.block_lt_of_cell? w5 _ k5) HB7.out.2.1).trans k5)))
            clear r2 rb fb k5 g6
            generalize w5.setCell ⟨r.rb, i4, none⟩ (.bool true) = wz at *
            go_meet
            exact ⟨rfl, _, B, q, rfl, HZ.out.1, HZ.out.2.1.more (by omega), .inl (on_break HON.out HOK.out.1 HTK.out), HZ.out.2.2⟩
        · as_aux_lemma =>
            go_wp2_with fail
            clear hs hmx k0 k1 k3
            refine (fuse_any a D xk HA.out.2.2.1.2 _ HSD.out.dev).mono ?_
            rintro e w5 ⟨rfl, d5, g5⟩
            have g5 := g5.mono (cs := a.all) (fun b hb => by simp at hb; subst hb; simp [DevA.all])
            have s1 : w5.cell? ⟨b7, 2, none⟩ = some (.int .i64 xk) := (cell_gr g5 (World.block_lt_of_cell? wa _ k2) HB7.out.1).trans k2
            have k5 := (cell_gr g5 (World.block_lt_of_cell? wa _ k5) HB7.out.1).trans k5
            obtain ⟨R, hR, hS⟩ := (HSD.out.midA HSF.out g5).1
            have H5 := Lib.hid (And.intro d5 g5)
            have r3 := hR.c3
            have f3 := hR.fr 3
            have HRS := Lib.hid (And.intro hR hS)
            clear d5 g5 hR hS k2
            generalize R.fuse = xf at *
            go_wp2_with fail
            have g6 : Gr r.all w5 (w5.setCell ⟨r.rd, 3, none⟩ (.int .i64 (mx xk))) := (grSet w5 r.rd 3 (.int .i64 (mx xk))).mono (cs := r.all) (fun b hb => by simp at hb; subst hb; simp [RefA.all])
            have H6 := Lib.hid (show RefIs (w5.setCell ⟨r.rd, 3, none⟩ (.int .i64 (mx xk))) r { D with fuse := mx xk } from by
              have hS := HRS.out.2
              exact ⟨_, HRS.out.1.setFuse (mx xk), ⟨hS.n, hS.wear, hS.bad, rfl, hS.off, hS.cnt, hS.med, hS.buf⟩⟩)
            have HZ := Lib.hid (And.intro (HSD.out.moved HSF.out H5.out.1 H5.out.2 H6.out g6 (show Bd _ (20000 + 1500 * k + 1470) from HSD.out.bd.mono (by omega))) (And.intro (HSQ.out.moved H5.out.2 g6) ((cell_gr g6 (World.block_lt_of_cell? w5 _ k5) HB7.out.2.1).trans k5)))
            clear r3 f3 k5 g6 s1 hmr
            generalize w5.setCell ⟨r.rd, 3, none⟩ (.int .i64 (mx xk)) = wz at *
            go_meet
            exact ⟨rfl, _, B, q, rfl, HZ.out.1, HZ.out.2.1.more (by omega), .inl (on_fuse HON.out (mx xk)), HZ.out.2.2⟩
        · as_aux_lemma =>
            go_upto_region 36 with fail
            clear hs
            go_cut [24] (fun kv wz => wz = wa ∧ ∃ (kl : Nat) (kp : Nat → Bool), ∀ W, Gr [] w W → KeepIs W kv kl kp)
            case first =>
              have HKN := Lib.hid HA.out.2.2.2.2.2.2.2.2
              have hkl1 : xkl ≤ xkc := HA.out.2.2.2.2.2.2.1
              have hkl2 : xkc ≤ 9223372036854775807 := by have := HA.out.2.2.2.2.2.2.2.1; unfold maxLen at this; simp only at this; omega
              cases xao with
              | none =>
                obtain rfl : xkc = 0 := HKN.out rfl
                obtain rfl : xkl = 0 := by omega
                have hmk := minIsR Tryz.prog 0 0 30 30 rfl rfl
                go_wp2_with fail
                go_meet
                exact ⟨rfl, 0, fun _ => false, fun W g => ⟨none, 0, rfl, (fun j hj => by omega), (fun _ _ => rfl), Nat.zero_le _⟩⟩
              | some ad =>
                by_cases h0 : xkl = 0
                · subst h0
                  have hmk := minIsR Tryz.prog 0 0 30 30 rfl rfl
                  go_wp2_with fail
                  go_meet
                  exact ⟨rfl, 0, fun _ => false, fun W g => ⟨some ad, _, rfl, (fun j hj => by omega), (fun _ _ => rfl), Nat.zero_le _⟩⟩
                · obtain ⟨bk, ok, hbo, _⟩ := HKP.out 0 (by omega)
                  obtain rfl := Option.some.inj hbo
                  obtain ⟨mk, hmk0⟩ : ∃ m, m = min xkl 30 := ⟨_, rfl⟩
                  have hmk := minIsR Tryz.prog xkl mk 30 30 rfl hmk0
                  have hm1 : mk ≤ xkl := by omega
                  have HM2 := Lib.hid (show mk ≤ xkl ∧ mk ≤ 30 by omega)
                  clear hmk0 hbo h0
                  go_wp2_with fail
                  go_meet
                  refine ⟨rfl, mk, fun j => if j < mk then xkp j else false, fun W g => ⟨some ⟨bk, ok, none⟩, _, rfl, (fun j hj => ?_), (fun j hj => if_neg (by omega)), Nat.le_trans HM2.out.2 (by unfold maxLen; omega)⟩⟩
                  obtain ⟨b', o', q1, q2, q3⟩ := HKP.out j (by have := HM2.out; omega)
                  obtain ⟨rfl, rfl⟩ : bk = b' ∧ ok = o' := by cases q1; exact ⟨rfl, rfl⟩
                  refine ⟨bk, ok, rfl, Nat.lt_of_lt_of_le q2 g.size, ?_⟩
                  rw [g.cell0 q2, q3]
                  show some (Value.bool (xkp j)) = some (Value.bool (if j < mk then xkp j else false))
                  rw [if_pos hj]
            case rest =>
              obtain ⟨rfl, kl, kp, hki⟩ := hcut
              have HK24 := Lib.hid hki
              clear hki hmx hmr k0 k1 k2 k3
              obtain ⟨DD, hDD⟩ : ∃ DD, DD = D := ⟨_, rfl⟩
              rw [← hDD] at HSD HON
              have HBt := Lib.hid (boot_any a DD _ kl kp _ HSD.out.dev (HK24.out _ HSD.out.gr) (fun l => by have := HSD.out.bd.2 l; omega) (by have := HSD.out.bd.1; omega))
              go_wp2_with fail
              refine HBt.out.mono ?_
              rintro e v5 ⟨rfl, ⟨LB, hLB, d5⟩, g5⟩
              obtain ⟨mr, mg⟩ := HSD.out.midA HSF.out g5
              have HLB := Lib.hid (ref_boot _ kl kp LB mr (HK24.out _ mg) (fun l => by have := HSD.out.bd.2 l; omega) HSD.out.dev.ok.sup hLB)
              have k5 := (cell_gr g5 (World.block_lt_of_cell? _ _ k5) HB7.out.1).trans k5
              obtain ⟨B16, hon16, hti16⟩ := ons_boot (.inl HON.out) HOK.out.1 kp hLB
              obtain ⟨D16, hD16⟩ : ∃ D16, D16 = bootD DD LB kp := ⟨_, rfl⟩
              rw [← hD16] at hon16 hti16 d5 HLB
              have HB16 := Lib.hid (show Bd D16 (20000 + 1500 * k + 1460) by rw [hD16]; exact (boot_bd HSD.out.bd).mono (by omega))
              have H5 := Lib.hid (And.intro d5 (And.intro g5 (And.intro hon16 hti16)))
              clear d5 g5 hLB mr mg hon16 hti16 hD16 HBt
              go_wp2_with fail
              refine HLB.out.mono ?_
              rintro e v6 ⟨rfl, r6, g6⟩
              have k5 := (cell_gr g6 (World.block_lt_of_cell? v5 _ k5) HB7.out.2.1).trans k5
              have HSD := Lib.hid (HSD.out.moved HSF.out H5.out.1 H5.out.2.1 r6 g6 HB16.out)
              clear r6 g6 HLB HB16
              have p0 := HSD.out.pl.cell 0
              have p1 := HSD.out.pl.cell 1
              have p2 := HSD.out.pl.cell 2
              have HCK := Lib.hid (show checkZ P (D16.n : Int) = 0 by
                have := H5.out.2.2.2.fits
                unfold checkZ
                rw [if_pos HOK.out.1, if_neg (by omega)])
              have HOp := Lib.hid (show Calls Tryz.prog 23 #[.pointer (some ⟨a.bd, 0, none⟩), .agg #[.int .i64 P.a, .int .i64 P.l, .int .i64 P.s]] v6 _ from open_ok (p := P) HSD.out.dev H5.out.2.2.2.calm.off HCK.out H5.out.2.2.2.opens)
              go_wp2_with fail
              refine HOp.out.mono ?_
              rintro e v7 ⟨bq, rfl, kq, hq7, g7⟩
              have HSQ := Lib.hid (show SPQ w v7 a r P pb bq B16 (64 * k + 128) from SPQ.opened HSD.out HSD.out.pl.lt kq hq7 (by omega))
              have HSD := Lib.hid (HSD.out.gr0 g7)
              have k5 := (g7.cell0 (World.block_lt_of_cell? v6 _ k5)).trans k5
              have HON := Lib.hid H5.out.2.2.1
              clear kq hq7 g7 p0 p1 p2 HOp HCK H5
              go_wp2_with fail
              go_meet
              exact ⟨rfl, D16, B16, bq, rfl, HSD.out.more (by omega), HSQ.out, .inl HON.out, k5⟩
      case rest =>
        obtain ⟨rfl, DD, BB, q', rfl, sd, sq, onf, k5⟩ := hcut
        obtain ⟨wz, hwz⟩ : ∃ wz, wz = wc := ⟨_, rfl⟩
        rw [← hwz] at sd sq k5 ⊢
        clear hwz HSD HSQ HON k0 k1 k2 k3 hs hmx hmr
        have HSD := Lib.hid sd
        have HSQ := Lib.hid sq
        have c4 := sd.ref.c4
        clear sd sq
        rcases onf with on | off
        · as_aux_lemma =>
            have HON := Lib.hid on
            rw [on.1.off] at c4
            clear on
            go_wp2_with fail
            clear c4 k5
            refine (media5_any a r DD _ HSD.out.dev HSD.out.ref).mono ?_
            rintro e w6 ⟨rfl, g6⟩
            have HSD := Lib.hid (HSD.out.gr0 g6)
            have HSQ := Lib.hid (HSQ.out.gr0 g6)
            clear g6
            go_wp2_with fail
            go_roundw
            case rel => exact ⟨k + 1, DD, BB, q', by omega, by go_num, rfl, HSD.out.more (by omega), HSQ.out.more (by omega), HON.out⟩
            case measure => simp [intOf]; omega
        · as_aux_lemma =>
            have HOF := Lib.hid off
            rw [off.1] at c4
            clear off
            have HOf := Lib.hid (off_any a DD _ HSD.out.dev)
            rw [HOF.out.1] at HOf
            go_wp2_with fail
            refine HOf.out.mono ?_
            rintro e w' ⟨rfl, rfl⟩
            go_wp2_with fail
            refine (media5_any a r DD _ HSD.out.dev HSD.out.ref).mono ?_
            rintro e w6 ⟨rfl, g6⟩
            have HSD := Lib.hid (HSD.out.gr0 g6)
            have HSQ := Lib.hid (HSQ.out.gr0 g6)
            have k5 := (g6.cell0 (World.block_lt_of_cell? _ _ k5)).trans k5
            clear g6 c4
            have HBt := Lib.hid (boot_any a DD _ xkl (fun j => if j < xkl then xkp j else false) _ HSD.out.dev (HKI.out _ HSD.out.gr) (fun l => by have := HSD.out.bd.2 l; omega) (by have := HSD.out.bd.1; omega))
            go_wp2_with fail
            refine HBt.out.mono ?_
            rintro e v5 ⟨rfl, ⟨LB, hLB, d5⟩, g5⟩
            obtain ⟨mr, mg⟩ := HSD.out.midA HSF.out g5
            have HLB := Lib.hid (ref_boot _ xkl (fun j => if j < xkl then xkp j else false) LB mr (HKI.out _ mg) (fun l => by have := HSD.out.bd.2 l; omega) HSD.out.dev.ok.sup hLB)
            have k5 := (cell_gr g5 (World.block_lt_of_cell? _ _ k5) HB7.out.1).trans k5
            obtain ⟨B16, hon16, hti16⟩ := ons_boot (B := BB) (.inr HOF.out) HOK.out.1 (fun j => if j < xkl then xkp j else false) hLB
            obtain ⟨D16, hD16⟩ : ∃ D16, D16 = bootD DD LB (fun j => if j < xkl then xkp j else false) := ⟨_, rfl⟩
            rw [← hD16] at hon16 hti16 d5 HLB
            have HB16 := Lib.hid (show Bd D16 (20000 + 1500 * k + 1480) by rw [hD16]; exact (boot_bd HSD.out.bd).mono (by omega))
            have H5 := Lib.hid (And.intro d5 (And.intro g5 (And.intro hon16 hti16)))
            clear d5 g5 hLB mr mg hon16 hti16 hD16 HBt
            go_wp2_with fail
            refine HLB.out.mono ?_
            rintro e v6 ⟨rfl, r6, g6⟩
            have k5 := (cell_gr g6 (World.block_lt_of_cell? v5 _ k5) HB7.out.2.1).trans k5
            have HSD := Lib.hid (HSD.out.moved HSF.out H5.out.1 H5.out.2.1 r6 g6 HB16.out)
            clear r6 g6 HLB HB16
            have p0 := HSD.out.pl.cell 0
            have p1 := HSD.out.pl.cell 1
            have p2 := HSD.out.pl.cell 2
            have HCK := Lib.hid (show checkZ P (D16.n : Int) = 0 by
              have := H5.out.2.2.2.fits
              unfold checkZ
              rw [if_pos HOK.out.1, if_neg (by omega)])
            have HOp := Lib.hid (show Calls Tryz.prog 23 #[.pointer (some ⟨a.bd, 0, none⟩), .agg #[.int .i64 P.a, .int .i64 P.l, .int .i64 P.s]] v6 _ from open_ok (p := P) HSD.out.dev H5.out.2.2.2.calm.off HCK.out H5.out.2.2.2.opens)
            go_wp2_with fail
            refine HOp.out.mono ?_
            rintro e v7 ⟨bq, rfl, kq, hq7, g7⟩
            have HSQ := Lib.hid (show SPQ w v7 a r P pb bq B16 (64 * k + 128) from SPQ.opened HSD.out HSD.out.pl.lt kq hq7 (by omega))
            have HSD := Lib.hid (HSD.out.gr0 g7)
            have k5 := (g7.cell0 (World.block_lt_of_cell? v6 _ k5)).trans k5
            have HON := Lib.hid H5.out.2.2.1
            clear kq hq7 g7 p0 p1 p2 HOp HCK H5
            go_wp2_with fail
            refine (media5_any a r D16 _ HSD.out.dev HSD.out.ref).mono ?_
            rintro e w8 ⟨rfl, g8⟩
            have HSD := Lib.hid (HSD.out.gr0 g8)
            have HSQ := Lib.hid (HSQ.out.gr0 g8)
            clear g8 k5
            go_wp2_with fail
            go_roundw
            case rel => exact ⟨k + 1, D16, B16, bq, by omega, by go_num, rfl, HSD.out.more (by omega), HSQ.out.more (by omega), HON.out⟩
            case measure => simp [intOf]; omega
    · obtain rfl : k = M := by omega
      have ij : ¬ ((k : Int) < (k : Int)) := by omega
      have HG := Lib.hid sd.gr
      clear sd sq on
      go_wp2_with fail
      go_ret
      exact ⟨rfl, HG.out⟩
end Go.Proofs.YtgifjnniohcacaaGreat
