/-
  MgBe: RhM1, RhN.
-/
import Derived.Test.YtdgcninmpcmdcaaGreatMgBd
import Derived.Test.YtdgcninmpcmdcaaGreatMgAd
import Derived.Test.YtdgcninmpcmdcaaGreatMgBc
import Derived.Test.YtdgcninmpcmdcaaGreatMgBa
import Derived.Deep.CutBlock

/-
  RingPlays.
-/
namespace Go.Proofs.YtdgcninmpcmdcaaGreat
open Go.ChangeShapes Go.WideShapes Go.ChangeAt Go.RowKit
set_option linter.unusedVariables false

theorem regZ_c (P : PlanR) (i : Nat) (f : Int → DevS → BkS → Int × DevS × BkS) (D : DevS) (B : BkS) (j c : Nat) : (regZ P i f D B j c).2.2.2.2 ≤ c + 1 := by
  unfold regZ
  split
  · split
    · dsimp only
      split <;> omega
    · dsimp only
      omega
  · dsimp only
    split <;> omega
theorem linZ_c (P : PlanR) (i : Int) (s : ByteArray) (D : DevS) (B : BkS) (j c : Nat) : (linZ P i s D B j c).2.2.2.2 ≤ c + 1 := by
  unfold linZ
  split
  · show c ≤ c + 1; omega
  · split
    · show c ≤ c + 1; omega
    · exact regZ_c _ _ _ _ _ _ _
theorem worZ_c (P : PlanR) (i k : Int) (v : Nat) (D : DevS) (B : BkS) (j c : Nat) : (worZ P i k v D B j c).2.2.2.2 ≤ c + 1 := by
  unfold worZ
  split
  · show c ≤ c + 1; omega
  · split
    · show c ≤ c + 1; omega
    · exact regZ_c _ _ _ _ _ _ _
theorem AftR.or {P : PlanR} {j n : Nat} {X : Int × DevS × BkS × Nat × Nat} (h : AftR P j n X) : OnR P X.2.1 X.2.2.1 X.2.2.2.1 ∨ OffR P X.2.2.2.1 X.2.1 := by
  by_cases c : X.1 = 6
  · exact .inr (h.2.1 c)
  · exact .inl (h.1 c)
set_option maxRecDepth 100000 in
set_option maxHeartbeats 40000000 in
theorem plays7_some (x0 x1 x2 x3 : Int) (b off L cap : Nat) (acts : Nat → ActL) (w : World) (hpos : 0 < L) (hcap : L ≤ cap) (hmax : cap ≤ maxLen) (hlt : b < w.heap.size) (hx : ∀ i, i < L → ActLIs w (acts i) ∧ ActLAt w b (off + i * 6) (acts i)) :
    Calls Tryz.prog 3 #[.agg #[.int .i64 x0, .int .i64 x1, .int .i64 x2, .int .i64 x3], .slice (some ⟨b, off, none⟩) L cap] w fun e w' => e = .returned (.bool true) ∧ Gr [] w w' := by
  obtain ⟨M, hM⟩ : ∃ M, M = min L 30 := ⟨_, rfl⟩
  have hmn := minIs7 Tryz.prog L M 30 30 rfl hM
  have hM1 : M ≤ L := by omega
  have hM2 : M ≤ 30 := by omega
  have HX := Lib.hid hx
  unfold maxLen at hmax
  clear hx hM
  have HSm := Lib.hid (fun W => small07 x0 x1 x2 x3 W)
  obtain ⟨t1, t2, t3, t4, t5, t6, t7, t8⟩ := smallR_ok x0 x1 x2 x3
  obtain ⟨P, hP⟩ : ∃ P, P = smallR x0 x1 x2 x3 := ⟨_, rfl⟩
  rw [← hP] at HSm t1 t2 t3 t4 t5 t6 t7 t8
  obtain ⟨oP, fP⟩ := small_okR t2 t1 t3 t4 t5 t6 t7 t8
  have HOK := Lib.hid (And.intro oP (And.intro t1 (And.intro t3 (And.intro t4 (And.intro t7 t8)))))
  unfold planRV at HSm
  have HPr := Lib.hid (fun W => show Calls Tryz.prog 6 #[.agg #[.int .i64 P.a, .int .i64 (P.l : Int), .int .i64 P.s, .int .i64 P.psi]] W _ from pair07 oP (by omega) W)
  have HG0 := Lib.hid ((Gr.refl [] w).alloc (Obj.cells #[.int .i64 x0, .int .i64 x1, .int .i64 x2, .int .i64 x3] 22))
  have hs7 : (P.s + 7).tdiv 8 = (P.s + 7) / 8 := Int.tdiv_eq_ediv_of_nonneg (by omega)
  have hs8 : IntKind.i64.wrap (P.s + 7) = P.s + 7 := IntWalk.i64_in _ (by omega)
  have hs9 : 0 ≤ P.s ∧ P.s ≤ 8 := ⟨t7, t8⟩
  clear hP t1 t2 t3 t4 t5 t6 t7 t8 oP fP
  go_enter Tryz.func3, Tryz.ntmps3
  go_wp2_with fail
  generalize (w.alloc (Obj.cells #[.int .i64 x0, .int .i64 x1, .int .i64 x2, .int .i64 x3] 22)) = w1 at *
  refine (HSm.out _).mono ?_
  rintro e w2 ⟨rfl, g2⟩
  have HG2 := Lib.hid (HG0.out.trans g2)
  have HHo := Holds.new w2 #[.int .i64 P.a, .int .i64 (P.l : Int), .int .i64 P.s, .int .i64 P.psi] 25
  have HGa := Lib.hid (HG2.out.next0 ((Gr.refl [] w2).alloc (Obj.cells #[.int .i64 P.a, .int .i64 (P.l : Int), .int .i64 P.s, .int .i64 P.psi] 25)))
  clear g2 HG0 HG2
  go_upto_region 2 with fail
  generalize (w2.alloc (Obj.cells #[.int .i64 P.a, .int .i64 (P.l : Int), .int .i64 P.s, .int .i64 P.psi] 25)) = w3 at *
  obtain ⟨pb, hpb⟩ : ∃ pb, w2.heap.size = pb := ⟨_, rfl⟩
  rw [hpb] at HHo ⊢
  clear hpb
  have p0 := HHo.cell 0
  have p1 := HHo.cell 1
  have p2 := HHo.cell 2
  have p3 := HHo.cell 3
  have HH3 := Lib.hid HHo
  clear HHo
  go_wp2_with fail
  refine (HPr.out _).mono ?_
  rintro e w4 ⟨a, kb, q, r, F, rfl, pr⟩
  have HSF := Lib.hid (show RPF w a r pb from ⟨pr.ar, (fun c => by have := pr.na _ c; have := HH3.out.lt; omega), (fun c => by have := pr.nr _ c; have := HH3.out.lt; omega), (fun x hx => Nat.le_trans HGa.out.size (pr.na x hx)), (fun x hx => Nat.le_trans HGa.out.size (pr.nr x hx))⟩)
  have HSD := Lib.hid (show RPD w w4 a r P pb F 12000 from ⟨pr.dev, pr.ref, pr.bd, HH3.out.gr0 pr.gr, HGa.out.trans pr.gr⟩)
  have HPR := Lib.hid pr
  have HPW := Lib.hid (show pb < w3.heap.size ∧ w.heap.size ≤ w3.heap.size from ⟨HH3.out.lt, HGa.out.size⟩)
  have p0 := HSD.out.pl.cell 0
  have p1 := HSD.out.pl.cell 1
  have p2 := HSD.out.pl.cell 2
  have p3 := HSD.out.pl.cell 3
  clear pr HH3 HGa HPr HSm
  go_upto_region 4 with fail
  have hrh := Holds.new w4 #[.int .i64 P.a, .int .i64 (P.l : Int), .int .i64 P.s, .int .i64 P.psi, .int .i64 0] 34
  have ga := (Gr.refl [] w4).alloc (Obj.cells #[.int .i64 P.a, .int .i64 (P.l : Int), .int .i64 P.s, .int .i64 P.psi, .int .i64 0] 34)
  have HSQ := Lib.hid (show RPQ w _ a r P pb kb q w4.heap.size B0 64 0 0 from ⟨HPR.out.rg.gr0 ga, hrh, fun x hx => (HPR.out.nq x hx).2, fun x hx => Nat.le_trans HPW.out.2 (HPR.out.nq x hx).1, fun hx => by have := (HPR.out.nq _ hx).1; have := HPW.out.1; omega, fun hx => by have := HPR.out.ref.lt _ hx; omega, fun hx => by have := HPR.out.dev.lt _ hx; omega, fun hx => by
    rcases List.mem_cons.1 hx with e | hx
    · have := HPR.out.rg.head.lt; omega
    · have := HPR.out.rg.bk.lt _ hx; omega, fun e => by have := HSD.out.pl.lt; omega, HSD.out.gr.size⟩)
  have HSD := Lib.hid (HSD.out.gr0 ga)
  have HON := Lib.hid (show OnR P F B0 0 from ⟨⟨HPR.out.gd.calm.off, HPR.out.gd.calm.buf⟩, (RgC.of HOK.out.1 HPR.out.gd (F := fun i k => wdR P F 0 i k) (E := F) (fun _ _ _ _ => rfl) rfl HPR.out.gd.calm.off rfl rfl (fun l _ _ => by rw [HPR.out.gd.bad])).1.ti, (RgC.of HOK.out.1 HPR.out.gd (F := fun i k => wdR P F 0 i k) (E := F) (fun _ _ _ _ => rfl) rfl HPR.out.gd.calm.off rfl rfl (fun l _ _ => by rw [HPR.out.gd.bad])).1.reg⟩)
  clear hrh ga p0 p1 p2 p3 HPR HPW
  generalize (w4.alloc (Obj.cells #[.int .i64 P.a, .int .i64 (P.l : Int), .int .i64 P.s, .int .i64 P.psi, .int .i64 0] 34)) = w5 at *
  obtain ⟨rq, hrq⟩ : ∃ rq, w4.heap.size = rq := ⟨_, rfl⟩
  rw [hrq] at HSQ ⊢
  clear hrq
  go_wp2_with fail
  refine (wakes07 _).mono ?_
  rintro e w6 ⟨rfl, g6⟩
  have HSD := Lib.hid (HSD.out.gr0 g6)
  have HSQ := Lib.hid (HSQ.out.gr0 g6)
  clear g6
  go_wp2_with fail
  refine (media7_any a r F _ HSD.out.dev HSD.out.ref).mono ?_
  rintro e w7 ⟨rfl, g7⟩
  have HSD := Lib.hid (HSD.out.gr0 g7)
  have HSQ := Lib.hid (HSQ.out.gr0 g7)
  clear g7
  have p2 := HSD.out.pl.cell 2
  obtain ⟨hs0, hs1⟩ := hs9
  go_wp2_with fail
  clear hmn p2 hs7 hs8 hs1
  go_loopw [7, 10, 58] (fun bv cv i wr => ∃ (k : Nat) (D : DevS) (B : BkS) (kb : Nat) (q : BkA) (rq j cs : Nat), k ≤ M ∧ i = .int .i64 k ∧ bv = .pointer (some ⟨kb, 0, none⟩) ∧ cv = .pointer (some ⟨rq, 0, none⟩) ∧ RPD w wr a r P pb D (12000 + 4400 * k) ∧ RPQ w wr a r P pb kb q rq B (64 + 192 * k) j cs ∧ OnR P D B j ∧ j ≤ 2 * k ∧ cs ≤ k) (fun _ _ i _ => M - (intOf i).toNat)
  case atStart => exact ⟨0, F, B0, kb, q, rq, 0, 0, by omega, rfl, rfl, rfl, HSD.out, HSQ.out, HON.out, by omega, by omega⟩
  case round =>
    clear HSD HSQ HON
    obtain ⟨k, D, B, kb, q, rq, j, cs, hk, rfl, rfl, rfl, sd, sq, on, hj, hcs⟩ := hrel
    by_cases hkM : k < M
    · have hx := HX.out k (by omega)
      have HA := Lib.hid hx.1
      obtain ⟨e0, e1, e2, e3, e4, e5⟩ := hx.2
      have g6 := sd.gr
      have e0 := (g6.cell0 hlt).trans e0
      have e1 := (g6.cell0 hlt).trans e1
      have e2 := (g6.cell0 hlt).trans e2
      have e3 := (g6.cell0 hlt).trans e3
      have e4 := (g6.cell0 hlt).trans e4
      have e5 := (g6.cell0 hlt).trans e5
      obtain ⟨x, hxe⟩ : ∃ x, acts k = x := ⟨_, rfl⟩
      rw [hxe] at HA e0 e1 e2 e3 e4 e5
      clear hx hxe g6
      obtain ⟨xd, xz, xk, xv, xs, xao, xkl, xkc, xkp⟩ := x
      dsimp only at e0 e1 e2 e3 e4 e5
      have hkb : (k : Int) < (M : Int) := by omega
      have hk0 : (0 : Int) ≤ (k : Int) := by omega
      obtain ⟨m8, hm8⟩ : ∃ m, m = min xs.size 80 := ⟨_, rfl⟩
      have hmn := minIs7 Tryz.prog xs.size m8 80 80 rfl hm8
      have hm8a : m8 ≤ xs.size := by omega
      have hxsz : xs.size ≤ 9223372036854775807 := by have := HA.out.2.2.2.2.1; unfold maxLen at this; omega
      have HM8 := Lib.hid (show m8 ≤ 80 by omega)
      have hmx := max0 Tryz.prog
      have hmr := max0r Tryz.prog
      have hd0 := mx_nonneg xd
      have hs : mx xd % 7 = 0 ∨ mx xd % 7 = 1 ∨ mx xd % 7 = 2 ∨ mx xd % 7 = 3 ∨ mx xd % 7 = 4 ∨ mx xd % 7 = 5 ∨ mx xd % 7 = 6 := by omega
      have X := Holds.new wr #[Value.int .i64 xd, .int .i64 xz, .int .i64 xk, .int .u64 (xv : Int), .string xs, .slice xao xkl xkc] 40
      have gA := (Gr.refl [] wr).alloc (Obj.cells #[Value.int .i64 xd, .int .i64 xz, .int .i64 xk, .int .u64 (xv : Int), .string xs, .slice xao xkl xkc] 40)
      have HSD := Lib.hid (sd.gr0 gA)
      have HSQ := Lib.hid (sq.gr0 gA)
      have HON := Lib.hid on
      have HJ := Lib.hid (show j ≤ 2 * k ∧ cs ≤ k ∧ k ≤ 30 by omega)
      have HB7 := Lib.hid (show wr.heap.size ∉ a.all ∧ wr.heap.size ∉ kb :: (q.all ++ a.all) ∧ wr.heap.size ∉ rq :: r.all ∧ wr.heap.size ∉ r.all ∧ wr.heap.size ≠ pb from ⟨fun c => by have := sd.dev.lt _ c; omega, fun c => by
        rcases List.mem_cons.1 c with c | c
        · have := sq.rg.head.lt; omega
        · rcases List.mem_append.1 c with c | c
          · have := sq.rg.bk.lt _ c; omega
          · have := sd.dev.lt _ c; omega, fun c => by
        rcases List.mem_cons.1 c with c | c
        · have := sq.rh.lt; omega
        · have := sd.ref.lt _ c; omega, fun c => by have := sd.ref.lt _ c; omega, fun c => by have := sd.pl.lt; omega⟩)
      have HW7 := Lib.hid (show w.heap.size ≤ wr.heap.size from sd.gr.size)
      have HKP := Lib.hid (show ∀ j, j < xkl → ∃ b o, xao = some ⟨b, o, none⟩ ∧ b < w.heap.size ∧ w.cell? ⟨b, o + j, none⟩ = some (.bool (xkp j)) from HA.out.2.2.2.2.2.1)
      clear sd sq on gA hm8 hj hcs
      go_upto_block 2 with fail
      clear e0 e1 e2 e3 e4 e5 hmn
      generalize wr.alloc (Obj.cells #[Value.int .i64 xd, .int .i64 xz, .int .i64 xk, .int .u64 (xv : Int), .string xs, .slice xao xkl xkc] 40) = wa at *
      obtain ⟨b7, hb7⟩ : ∃ b7, wr.heap.size = b7 := ⟨_, rfl⟩
      rw [hb7] at X HB7 HW7 ⊢
      clear hb7
      obtain ⟨S, hS⟩ : ∃ S, xs.extract 0 m8 = S := ⟨_, rfl⟩
      have HSZ := Lib.hid (show S.size ≤ 80 by rw [← hS, ByteArray.size_extract]; have := HM8.out; omega)
      try rw [hS]
      clear hS
      have HFL := Lib.hid (fun W => full07 S W (by have := HSZ.out; omega))
      have k0 := X.cell 0
      have k1 := X.cell 1
      have k2 := X.cell 2
      have k3 := X.cell 3
      have k5 := X.cell 5
      have HX7 := Lib.hid X
      clear X
      go_cut [15, 16] (fun sv kv16 wz => sv = .bool true ∧ ∃ (D' : DevS) (B' : BkS) (j' cs' : Nat), RPD w wz a r P pb D' (12000 + 4400 * k + 4250) ∧ RPQ w wz a r P pb kb q rq B' (64 + 192 * k + 192) j' cs' ∧ (OnR P D' B' j' ∨ OffR P j' D') ∧ j' ≤ 2 * k + 1 ∧ cs' ≤ k + 1 ∧ wz.cell? ⟨b7, 5, none⟩ = some (.slice xao xkl xkc))
      case first =>
        rcases hs with hs | hs | hs | hs | hs | hs | hs
        · as_aux_lemma =>
            go_wp2_with fail
            clear hs hmx hmr k0 k2 k3
            try clear hkk
            have gd : Gr [] wa wa.drew := (Gr.refl [] wa).drew
            have HKc := Lib.hid (show ∀ W W' : World, (W.cell? ⟨b7, 1, none⟩ = some (.int .i64 xz) ∧ W.cell? ⟨b7, 5, none⟩ = some (.slice xao xkl xkc)) → ∀ bs, Gr bs W W' → b7 ∉ bs → (W'.cell? ⟨b7, 1, none⟩ = some (.int .i64 xz) ∧ W'.cell? ⟨b7, 5, none⟩ = some (.slice xao xkl xkc)) from fun W W' q bs g hn =>
              ⟨(cell_gr g (World.block_lt_of_cell? _ _ q.1) hn).trans q.1, (cell_gr g (World.block_lt_of_cell? _ _ q.2) hn).trans q.2⟩)
            have s4 : wa.drew.cell? ⟨b7, 1, none⟩ = some (.int .i64 xz) ∧ wa.drew.cell? ⟨b7, 5, none⟩ = some (.slice xao xkl xkc) := ⟨(gd.cell0 (World.block_lt_of_cell? wa _ k1)).trans k1, (gd.cell0 (World.block_lt_of_cell? wa _ k5)).trans k5⟩
            clear k1 k5
            obtain ⟨X, hX⟩ : ∃ X, X = linZ P xz (fullS S) D B j cs := ⟨_, rfl⟩
            have HW := Lib.hid (fun W (q1 : RgIs W kb q a P B (64 + 192 * k) j cs) (q2 : DevIs W a D) => pline_any HOK.out.1 xz (fullS S) (by rw [fullS_size]; unfold maxLen; omega) q1 q2 HSD.out.bd (by omega) (by omega) HON.out (by have := HJ.out; omega))
            have HRW := Lib.hid (fun W (q1 : RefIs W r D) (q2 : Holds W rq (rqRow P cs) 34) => rline_any HOK.out.1 xz (fullS S) (by rw [fullS_size]; unfold maxLen; omega) q1 q2 HSQ.out.rr HON.out HSD.out.mbb HSD.out.fu (by omega) (by have := HJ.out; omega) (by have := HJ.out; omega))
            rw [← hX] at HW HRW
            have HAF := Lib.hid (show AftR P j D.n X by rw [hX]; exact HON.out.lin HOK.out.1 HSD.out.mbb.1 HSD.out.mbb (by have := HJ.out; omega) xz (fullS S))
            have HCB := Lib.hid (show X.2.2.2.2 ≤ cs + 1 by rw [hX]; exact linZ_c _ _ _ _ _ _ _)
            clear hX
            go_region_held3 (fun w' : World => w'.cell? ⟨b7, 1, none⟩ = some (.int .i64 xz) ∧ w'.cell? ⟨b7, 5, none⟩ = some (.slice xao xkl xkc)) (first | assumption | go_keep) ((first
              | (go_at_call 11; (with_reducible refine Calls.mono (HRW.out _ (HM.out.1.gr0 H5b.out) (HM.out.2.1.gr0 H5b.out)) ?_); rintro e w6 ⟨rfl, r6, f6, h6, g6⟩; have s4 := HKc.out _ _ s4 _ g6 HB7.out.2.2.1; have H6 := Lib.hid (show RPD w w6 a r P pb X.2.1 (12000 + 4400 * k + 4250) ∧ RPQ w w6 a r P pb kb q rq X.2.2.1 (64 + 192 * k + 192) X.2.2.2.1 X.2.2.2.2 from ⟨HP.out.2.2.2.2.1.after HSF.out HP.out.2.2.2.2.2 (HP.out.1.gr0 H5b.out) (HP.out.2.2.2.1.next0 H5b.out) r6 g6 (HP.out.2.1.mono (by omega)), HP.out.2.2.2.2.2.after (HP.out.2.2.1.gr0 H5b.out) h6 g6 (by omega)⟩); clear r6 f6 h6 g6)
              | (go_at_call 10; (with_reducible refine Calls.mono ((fun (_ : DevIs _ _ _) => HFL.out _) HP.out.1) ?_); rintro e w5 ⟨rfl, g5⟩; have s4 := HKc.out _ _ s4 [] g5 (by simp); have H5b := Lib.hid g5; clear g5)
              | (go_at_call 9; (with_reducible refine Calls.mono (HW.out _ (HSQ.out.gr0 (gd.trans H5.out)).rg (HSD.out.gr0 (gd.trans H5.out)).dev) ?_); rintro e wp ⟨rfl, dp, bp, kp, gp⟩; have s4 := HKc.out _ _ s4 _ gp HB7.out.2.1; have HP := Lib.hid (And.intro dp (And.intro bp (And.intro kp (And.intro gp (And.intro (HSD.out.gr0 (gd.trans H5.out)) (HSQ.out.gr0 (gd.trans H5.out))))))); have HM := Lib.hid (HP.out.2.2.2.2.1.mid HSF.out HP.out.2.2.2.2.2 HP.out.2.2.2.1); clear dp bp kp gp)
              | (go_at_call 10; (with_reducible refine Calls.mono (HFL.out _) ?_); rintro e w5 ⟨rfl, g5⟩; have s4 := HKc.out _ _ s4 [] g5 (by simp); have H5 := Lib.hid g5; clear g5)))
            have HZ := Lib.hid (And.intro H6.out (And.intro HAF.out.or (And.intro HAF.out.2.2.2 (And.intro HCB.out s4.2))))
            clear s4 H6 HP HM HAF HCB HW HRW
            generalize w6 = wz at *
            go_wp2_with fail
            go_meet
            exact ⟨rfl, X.2.1, X.2.2.1, X.2.2.2.1, X.2.2.2.2, HZ.out.1.1, HZ.out.1.2, HZ.out.2.1, by have := HZ.out.2.2.1; have := HJ.out; omega, by have := HZ.out.2.2.2.1; have := HJ.out; omega, HZ.out.2.2.2.2⟩
        · as_aux_lemma =>
            go_wp2_with fail
            clear hs hmx hmr k0 k2 k3
            try clear hkk
            have gd : Gr [] wa wa.drew := (Gr.refl [] wa).drew
            have HKc := Lib.hid (show ∀ W W' : World, (W.cell? ⟨b7, 1, none⟩ = some (.int .i64 xz) ∧ W.cell? ⟨b7, 5, none⟩ = some (.slice xao xkl xkc)) → ∀ bs, Gr bs W W' → b7 ∉ bs → (W'.cell? ⟨b7, 1, none⟩ = some (.int .i64 xz) ∧ W'.cell? ⟨b7, 5, none⟩ = some (.slice xao xkl xkc)) from fun W W' q bs g hn =>
              ⟨(cell_gr g (World.block_lt_of_cell? _ _ q.1) hn).trans q.1, (cell_gr g (World.block_lt_of_cell? _ _ q.2) hn).trans q.2⟩)
            have s4 : wa.drew.cell? ⟨b7, 1, none⟩ = some (.int .i64 xz) ∧ wa.drew.cell? ⟨b7, 5, none⟩ = some (.slice xao xkl xkc) := ⟨(gd.cell0 (World.block_lt_of_cell? wa _ k1)).trans k1, (gd.cell0 (World.block_lt_of_cell? wa _ k5)).trans k5⟩
            clear k1 k5
            obtain ⟨X, hX⟩ : ∃ X, X = linZ P xz S D B j cs := ⟨_, rfl⟩
            have HW := Lib.hid (fun W (q1 : RgIs W kb q a P B (64 + 192 * k) j cs) (q2 : DevIs W a D) => pline_any HOK.out.1 xz S (by have := HSZ.out; unfold maxLen; omega) q1 q2 HSD.out.bd (by omega) (by omega) HON.out (by have := HJ.out; omega))
            have HRW := Lib.hid (fun W (q1 : RefIs W r D) (q2 : Holds W rq (rqRow P cs) 34) => rline_any HOK.out.1 xz S (by have := HSZ.out; unfold maxLen; omega) q1 q2 HSQ.out.rr HON.out HSD.out.mbb HSD.out.fu (by omega) (by have := HJ.out; omega) (by have := HJ.out; omega))
            rw [← hX] at HW HRW
            have HAF := Lib.hid (show AftR P j D.n X by rw [hX]; exact HON.out.lin HOK.out.1 HSD.out.mbb.1 HSD.out.mbb (by have := HJ.out; omega) xz S)
            have HCB := Lib.hid (show X.2.2.2.2 ≤ cs + 1 by rw [hX]; exact linZ_c _ _ _ _ _ _ _)
            clear hX
            go_region_held3 (fun w' : World => w'.cell? ⟨b7, 1, none⟩ = some (.int .i64 xz) ∧ w'.cell? ⟨b7, 5, none⟩ = some (.slice xao xkl xkc)) (first | assumption | go_keep) ((first
              | (go_at_call 11; (with_reducible refine Calls.mono (HRW.out _ (HM.out.1.gr0 (Gr.refl [] _)) (HM.out.2.1.gr0 (Gr.refl [] _))) ?_); rintro e w6 ⟨rfl, r6, f6, h6, g6⟩; have s4 := HKc.out _ _ s4 _ g6 HB7.out.2.2.1; have H6 := Lib.hid (show RPD w w6 a r P pb X.2.1 (12000 + 4400 * k + 4250) ∧ RPQ w w6 a r P pb kb q rq X.2.2.1 (64 + 192 * k + 192) X.2.2.2.1 X.2.2.2.2 from ⟨HP.out.2.2.2.2.1.after HSF.out HP.out.2.2.2.2.2 (HP.out.1.gr0 (Gr.refl [] _)) (HP.out.2.2.2.1.next0 (Gr.refl [] _)) r6 g6 (HP.out.2.1.mono (by omega)), HP.out.2.2.2.2.2.after (HP.out.2.2.1.gr0 (Gr.refl [] _)) h6 g6 (by omega)⟩); clear r6 f6 h6 g6)
              | (go_at_call 9; (with_reducible refine Calls.mono (HW.out _ (HSQ.out.gr0 gd).rg (HSD.out.gr0 gd).dev) ?_); rintro e wp ⟨rfl, dp, bp, kp, gp⟩; have s4 := HKc.out _ _ s4 _ gp HB7.out.2.1; have HP := Lib.hid (And.intro dp (And.intro bp (And.intro kp (And.intro gp (And.intro (HSD.out.gr0 gd) (HSQ.out.gr0 gd)))))); have HM := Lib.hid (HP.out.2.2.2.2.1.mid HSF.out HP.out.2.2.2.2.2 HP.out.2.2.2.1); clear dp bp kp gp)))
            have HZ := Lib.hid (And.intro H6.out (And.intro HAF.out.or (And.intro HAF.out.2.2.2 (And.intro HCB.out s4.2))))
            clear s4 H6 HP HM HAF HCB HW HRW
            generalize w6 = wz at *
            go_wp2_with fail
            go_meet
            exact ⟨rfl, X.2.1, X.2.2.1, X.2.2.2.1, X.2.2.2.2, HZ.out.1.1, HZ.out.1.2, HZ.out.2.1, by have := HZ.out.2.2.1; have := HJ.out; omega, by have := HZ.out.2.2.2.1; have := HJ.out; omega, HZ.out.2.2.2.2⟩
        · as_aux_lemma =>
            by_cases hkk : xk < 0
            · have HKK := Lib.hid hkk
              go_upto_region 19 with fail
              clear hs
              have hs := True.intro
              go_wp2_with fail
              clear hs hmx hmr k0 k2
              try clear hkk
              have gd : Gr [] wa wa.drew := (Gr.refl [] wa).drew
              have HKc := Lib.hid (show ∀ W W' : World, (W.cell? ⟨b7, 1, none⟩ = some (.int .i64 xz) ∧ W.cell? ⟨b7, 3, none⟩ = some (.int .u64 (xv : Int)) ∧ W.cell? ⟨b7, 5, none⟩ = some (.slice xao xkl xkc)) → ∀ bs, Gr bs W W' → b7 ∉ bs → (W'.cell? ⟨b7, 1, none⟩ = some (.int .i64 xz) ∧ W'.cell? ⟨b7, 3, none⟩ = some (.int .u64 (xv : Int)) ∧ W'.cell? ⟨b7, 5, none⟩ = some (.slice xao xkl xkc)) from fun W W' q bs g hn =>
                ⟨(cell_gr g (World.block_lt_of_cell? _ _ q.1) hn).trans q.1, (cell_gr g (World.block_lt_of_cell? _ _ q.2.1) hn).trans q.2.1, (cell_gr g (World.block_lt_of_cell? _ _ q.2.2) hn).trans q.2.2⟩)
              have s4 : wa.drew.cell? ⟨b7, 1, none⟩ = some (.int .i64 xz) ∧ wa.drew.cell? ⟨b7, 3, none⟩ = some (.int .u64 (xv : Int)) ∧ wa.drew.cell? ⟨b7, 5, none⟩ = some (.slice xao xkl xkc) := ⟨(gd.cell0 (World.block_lt_of_cell? wa _ k1)).trans k1, (gd.cell0 (World.block_lt_of_cell? wa _ k3)).trans k3, (gd.cell0 (World.block_lt_of_cell? wa _ k5)).trans k5⟩
              clear k1 k3 k5
              obtain ⟨X, hX⟩ : ∃ X, X = worZ P xz 8 xv D B j cs := ⟨_, rfl⟩
              have HW := Lib.hid (fun W (q1 : RgIs W kb q a P B (64 + 192 * k) j cs) (q2 : DevIs W a D) => pword_any HOK.out.1 xz 8 xv HA.out.2.2.2.1 q1 q2 HSD.out.bd (by omega) (by omega) HON.out (by have := HJ.out; omega))
              have HRW := Lib.hid (fun W (q1 : RefIs W r D) (q2 : Holds W rq (rqRow P cs) 34) => rword_any HOK.out.1 xz 8 (by have := HKK.out; omega) xv HA.out.2.2.2.1 q1 q2 HSQ.out.rr HON.out HSD.out.mbb HSD.out.fu (by omega) (by have := HJ.out; omega) (by have := HJ.out; omega))
              rw [← hX] at HW HRW
              have HAF := Lib.hid (show AftR P j D.n X by rw [hX]; exact HON.out.wor HOK.out.1 HSD.out.mbb.1 HSD.out.mbb (by have := HJ.out; omega) xz 8 HA.out.2.2.2.1)
              have HCB := Lib.hid (show X.2.2.2.2 ≤ cs + 1 by rw [hX]; exact worZ_c _ _ _ _ _ _ _ _)
              clear hX
              go_region_held3 (fun w' : World => w'.cell? ⟨b7, 1, none⟩ = some (.int .i64 xz) ∧ w'.cell? ⟨b7, 3, none⟩ = some (.int .u64 (xv : Int)) ∧ w'.cell? ⟨b7, 5, none⟩ = some (.slice xao xkl xkc)) (first | assumption | go_keep) ((first
                | (go_at_call 11; (with_reducible refine Calls.mono (HRW.out _ (HM.out.1.gr0 (Gr.refl [] _)) (HM.out.2.1.gr0 (Gr.refl [] _))) ?_); rintro e w6 ⟨rfl, r6, f6, h6, g6⟩; have s4 := HKc.out _ _ s4 _ g6 HB7.out.2.2.1; have H6 := Lib.hid (show RPD w w6 a r P pb X.2.1 (12000 + 4400 * k + 4250) ∧ RPQ w w6 a r P pb kb q rq X.2.2.1 (64 + 192 * k + 192) X.2.2.2.1 X.2.2.2.2 from ⟨HP.out.2.2.2.2.1.after HSF.out HP.out.2.2.2.2.2 (HP.out.1.gr0 (Gr.refl [] _)) (HP.out.2.2.2.1.next0 (Gr.refl [] _)) r6 g6 (HP.out.2.1.mono (by omega)), HP.out.2.2.2.2.2.after (HP.out.2.2.1.gr0 (Gr.refl [] _)) h6 g6 (by omega)⟩); clear r6 f6 h6 g6)
                | (go_at_call 12; (with_reducible refine Calls.mono (HW.out _ (HSQ.out.gr0 gd).rg (HSD.out.gr0 gd).dev) ?_); rintro e wp ⟨rfl, dp, bp, kp, gp⟩; have s4 := HKc.out _ _ s4 _ gp HB7.out.2.1; have HP := Lib.hid (And.intro dp (And.intro bp (And.intro kp (And.intro gp (And.intro (HSD.out.gr0 gd) (HSQ.out.gr0 gd)))))); have HM := Lib.hid (HP.out.2.2.2.2.1.mid HSF.out HP.out.2.2.2.2.2 HP.out.2.2.2.1); clear dp bp kp gp)))
              have HZ := Lib.hid (And.intro H6.out (And.intro HAF.out.or (And.intro HAF.out.2.2.2 (And.intro HCB.out s4.2.2))))
              clear s4 H6 HP HM HAF HCB HW HRW
              generalize w6 = wz at *
              go_wp2_with fail
              go_meet
              exact ⟨rfl, X.2.1, X.2.2.1, X.2.2.2.1, X.2.2.2.2, HZ.out.1.1, HZ.out.1.2, HZ.out.2.1, by have := HZ.out.2.2.1; have := HJ.out; omega, by have := HZ.out.2.2.2.1; have := HJ.out; omega, HZ.out.2.2.2.2⟩
            · have HKK := Lib.hid hkk
              go_upto_region 19 with fail
              clear hs
              have hs := True.intro
              go_wp2_with fail
              clear hs hmx hmr k0 k2
              try clear hkk
              have gd : Gr [] wa wa.drew := (Gr.refl [] wa).drew
              have HKc := Lib.hid (show ∀ W W' : World, (W.cell? ⟨b7, 1, none⟩ = some (.int .i64 xz) ∧ W.cell? ⟨b7, 3, none⟩ = some (.int .u64 (xv : Int)) ∧ W.cell? ⟨b7, 5, none⟩ = some (.slice xao xkl xkc)) → ∀ bs, Gr bs W W' → b7 ∉ bs → (W'.cell? ⟨b7, 1, none⟩ = some (.int .i64 xz) ∧ W'.cell? ⟨b7, 3, none⟩ = some (.int .u64 (xv : Int)) ∧ W'.cell? ⟨b7, 5, none⟩ = some (.slice xao xkl xkc)) from fun W W' q bs g hn =>
                ⟨(cell_gr g (World.block_lt_of_cell? _ _ q.1) hn).trans q.1, (cell_gr g (World.block_lt_of_cell? _ _ q.2.1) hn).trans q.2.1, (cell_gr g (World.block_lt_of_cell? _ _ q.2.2) hn).trans q.2.2⟩)
              have s4 : wa.drew.cell? ⟨b7, 1, none⟩ = some (.int .i64 xz) ∧ wa.drew.cell? ⟨b7, 3, none⟩ = some (.int .u64 (xv : Int)) ∧ wa.drew.cell? ⟨b7, 5, none⟩ = some (.slice xao xkl xkc) := ⟨(gd.cell0 (World.block_lt_of_cell? wa _ k1)).trans k1, (gd.cell0 (World.block_lt_of_cell? wa _ k3)).trans k3, (gd.cell0 (World.block_lt_of_cell? wa _ k5)).trans k5⟩
              clear k1 k3 k5
              obtain ⟨X, hX⟩ : ∃ X, X = worZ P xz xk xv D B j cs := ⟨_, rfl⟩
              have HW := Lib.hid (fun W (q1 : RgIs W kb q a P B (64 + 192 * k) j cs) (q2 : DevIs W a D) => pword_any HOK.out.1 xz xk xv HA.out.2.2.2.1 q1 q2 HSD.out.bd (by omega) (by omega) HON.out (by have := HJ.out; omega))
              have HRW := Lib.hid (fun W (q1 : RefIs W r D) (q2 : Holds W rq (rqRow P cs) 34) => rword_any HOK.out.1 xz xk (by have := HKK.out; omega) xv HA.out.2.2.2.1 q1 q2 HSQ.out.rr HON.out HSD.out.mbb HSD.out.fu (by omega) (by have := HJ.out; omega) (by have := HJ.out; omega))
              rw [← hX] at HW HRW
              have HAF := Lib.hid (show AftR P j D.n X by rw [hX]; exact HON.out.wor HOK.out.1 HSD.out.mbb.1 HSD.out.mbb (by have := HJ.out; omega) xz xk HA.out.2.2.2.1)
              have HCB := Lib.hid (show X.2.2.2.2 ≤ cs + 1 by rw [hX]; exact worZ_c _ _ _ _ _ _ _ _)
              clear hX
              go_region_held3 (fun w' : World => w'.cell? ⟨b7, 1, none⟩ = some (.int .i64 xz) ∧ w'.cell? ⟨b7, 3, none⟩ = some (.int .u64 (xv : Int)) ∧ w'.cell? ⟨b7, 5, none⟩ = some (.slice xao xkl xkc)) (first | assumption | go_keep) ((first
                | (go_at_call 11; (with_reducible refine Calls.mono (HRW.out _ (HM.out.1.gr0 (Gr.refl [] _)) (HM.out.2.1.gr0 (Gr.refl [] _))) ?_); rintro e w6 ⟨rfl, r6, f6, h6, g6⟩; have s4 := HKc.out _ _ s4 _ g6 HB7.out.2.2.1; have H6 := Lib.hid (show RPD w w6 a r P pb X.2.1 (12000 + 4400 * k + 4250) ∧ RPQ w w6 a r P pb kb q rq X.2.2.1 (64 + 192 * k + 192) X.2.2.2.1 X.2.2.2.2 from ⟨HP.out.2.2.2.2.1.after HSF.out HP.out.2.2.2.2.2 (HP.out.1.gr0 (Gr.refl [] _)) (HP.out.2.2.2.1.next0 (Gr.refl [] _)) r6 g6 (HP.out.2.1.mono (by omega)), HP.out.2.2.2.2.2.after (HP.out.2.2.1.gr0 (Gr.refl [] _)) h6 g6 (by omega)⟩); clear r6 f6 h6 g6)
                | (go_at_call 12; (with_reducible refine Calls.mono (HW.out _ (HSQ.out.gr0 gd).rg (HSD.out.gr0 gd).dev) ?_); rintro e wp ⟨rfl, dp, bp, kp, gp⟩; have s4 := HKc.out _ _ s4 _ gp HB7.out.2.1; have HP := Lib.hid (And.intro dp (And.intro bp (And.intro kp (And.intro gp (And.intro (HSD.out.gr0 gd) (HSQ.out.gr0 gd)))))); have HM := Lib.hid (HP.out.2.2.2.2.1.mid HSF.out HP.out.2.2.2.2.2 HP.out.2.2.2.1); clear dp bp kp gp)))
              have HZ := Lib.hid (And.intro H6.out (And.intro HAF.out.or (And.intro HAF.out.2.2.2 (And.intro HCB.out s4.2.2))))
              clear s4 H6 HP HM HAF HCB HW HRW
              generalize w6 = wz at *
              go_wp2_with fail
              go_meet
              exact ⟨rfl, X.2.1, X.2.2.1, X.2.2.2.1, X.2.2.2.2, HZ.out.1.1, HZ.out.1.2, HZ.out.2.1, by have := HZ.out.2.2.1; have := HJ.out; omega, by have := HZ.out.2.2.2.1; have := HJ.out; omega, HZ.out.2.2.2.2⟩
        · as_aux_lemma =>
            clear hs0
            go_wp2_with fail
            clear hs hmx hmr k0 k2 k3
            by_cases hin : xz < 0 ∨ (P.l : Int) ≤ xz
            · refine (rgread_out xz HSQ.out.rg hin).mono ?_
              rintro e w5 ⟨rfl, rfl⟩
              have p0 := HSD.out.pl.cell 0
              have p1 := HSD.out.pl.cell 1
              have p2 := HSD.out.pl.cell 2
              have p3 := HSD.out.pl.cell 3
              have HRd := Lib.hid (fun W => show Calls Tryz.prog 14 #[.pointer (some ⟨r.rd, 0, none⟩), .agg #[.int .i64 P.a, .int .i64 (P.l : Int), .int .i64 P.s, .int .i64 P.psi], .int .i64 xz] W _ from rread07_out (P := P) xz hin W (.pointer (some ⟨r.rd, 0, none⟩)))
              clear hin
              go_wp2_with fail
              refine (HRd.out _).mono ?_
              rintro e w6 ⟨rfl, g6⟩
              have HZ := Lib.hid (And.intro (HSD.out.gr0 g6) (And.intro (HSQ.out.gr0 g6) ((g6.cell0 (World.block_lt_of_cell? _ _ k5)).trans k5)))
              clear g6 k1 k5 p0 p1 p2 p3 HRd
              go_wp2_with fail
              go_meet
              exact ⟨rfl, D, B, j, cs, HZ.out.1.more (by omega), HZ.out.2.1.more (by omega), .inl HON.out, by have := HJ.out; omega, by have := HJ.out; omega, HZ.out.2.2⟩
            · obtain ⟨iN, hiN⟩ : ∃ n : Nat, xz = (n : Int) := ⟨xz.toNat, by omega⟩
              subst hiN
              have hil : iN < P.l := by omega
              have HRp := Lib.hid (rgread_any iN hil HSQ.out.rg HSD.out.dev HON.out.ti.fits)
              have HRd := Lib.hid (fun W (q1 : RefIs W r D) => show Calls Tryz.prog 14 #[.pointer (some ⟨r.rd, 0, none⟩), .agg #[.int .i64 P.a, .int .i64 (P.l : Int), .int .i64 P.s, .int .i64 P.psi], .int .i64 (iN : Int)] W _ from rread07_in HOK.out.1 q1 HON.out HSD.out.mbb.1 (by have := HJ.out; omega) iN hil)
              rw [HON.out.readZ HOK.out.1 iN] at HRp
              obtain ⟨T, hT⟩ : ∃ T, (readR D (bankR P) B (slotJ P j iN)).1 = T := ⟨_, rfl⟩
              rw [hT] at HRp HRd
              clear hT hin hil
              refine HRp.out.mono ?_
              rintro e w5 ⟨rfl, g5⟩
              have HSD := Lib.hid (HSD.out.gr0 g5)
              have HSQ := Lib.hid (HSQ.out.gr0 g5)
              have k1 := (g5.cell0 (World.block_lt_of_cell? _ _ k1)).trans k1
              have k5 := (g5.cell0 (World.block_lt_of_cell? _ _ k5)).trans k5
              clear g5
              have p0 := HSD.out.pl.cell 0
              have p1 := HSD.out.pl.cell 1
              have p2 := HSD.out.pl.cell 2
              have p3 := HSD.out.pl.cell 3
              go_wp2_with fail
              refine (HRd.out _ HSD.out.ref).mono ?_
              rintro e w6 ⟨rfl, g6⟩
              have HZ := Lib.hid (And.intro (HSD.out.gr0 g6) (And.intro (HSQ.out.gr0 g6) ((g6.cell0 (World.block_lt_of_cell? _ _ k5)).trans k5)))
              clear g6 k1 k5 p0 p1 p2 p3 HRd HRp
              go_wp2_with fail
              go_meet
              exact ⟨rfl, D, B, j, cs, HZ.out.1.more (by omega), HZ.out.2.1.more (by omega), .inl HON.out, by have := HJ.out; omega, by have := HJ.out; omega, HZ.out.2.2⟩
        · as_aux_lemma =>
            clear hs0
            have hq0 : 0 < (P.l : Int) + 2 + P.s := by have := HOK.out.2; omega
            have hlb : P.l ≤ 5 := HOK.out.2.1
            have hsb : 0 ≤ P.s ∧ P.s ≤ 8 := ⟨HOK.out.2.2.2.2.1, HOK.out.2.2.2.2.2⟩
            have hab : 0 ≤ P.a ∧ P.a ≤ 1 := ⟨HOK.out.2.2.1, HOK.out.2.2.2.1⟩
            have hz0 := mx_nonneg xz
            have w1a : IntKind.i64.wrap (P.a + (P.s + 7) / 8) = P.a + (P.s + 7) / 8 := IntWalk.i64_in _ (by omega)
            have w2b : IntKind.i64.wrap ((P.l : Int) + 2) = (P.l : Int) + 2 := IntWalk.i64_in _ (by omega)
            have w2a : IntKind.i64.wrap ((P.l : Int) + 2 + P.s) = (P.l : Int) + 2 + P.s := IntWalk.i64_in _ (by omega)
            have w3a : (mx xz).tmod ((P.l : Int) + 2 + P.s) = mx xz % ((P.l : Int) + 2 + P.s) := Int.tmod_eq_emod_of_nonneg hz0
            have m1 := Int.emod_nonneg (mx xz) (show (P.l : Int) + 2 + P.s ≠ 0 by omega)
            have m2 := Int.emod_lt_of_pos (mx xz) hq0
            obtain ⟨i4, hi4⟩ : ∃ i4 : Nat, P.a + (P.s + 7) / 8 + mx xz % ((P.l : Int) + 2 + P.s) = (i4 : Int) := ⟨(P.a + (P.s + 7) / 8 + mx xz % ((P.l : Int) + 2 + P.s)).toNat, by omega⟩
            have w4a : IntKind.i64.wrap (P.a + (P.s + 7) / 8 + mx xz % ((P.l : Int) + 2 + P.s)) = (i4 : Int) := by rw [hi4]; exact IntWalk.i64_in _ (by omega)
            have hfit : (bankR P).a + sizeZ (bankR P) ≤ (D.n : Int) := HON.out.ti.fits
            obtain ⟨-, -, -, -, -, hsz⟩ := rg_nums HOK.out.1
            have htb : tabZ (bankR P) = (P.s + 7) / 8 := rfl
            have hba : (bankR P).a = P.a := rfl
            have HIN := Lib.hid (show i4 < D.n by omega)
            have HTK := Lib.hid (show P.a + tabZ (bankR P) ≤ (i4 : Int) by omega)
            have hnz : ¬ ((P.l : Int) + 2 + P.s = 0) := by omega
            clear hfit hsz htb hi4 hba
            have p0 := kp_cell (HSD.out.pl.cell 0)
            have p1 := kp_cell (HSD.out.pl.cell 1)
            have p2 := kp_cell (HSD.out.pl.cell 2)
            have kk1 := kp_cell k1
            have hne := kp_ne wa
            clear k0 k1 k2 k3 hmr
            go_wp2_with fail
            refine wp_region_kp (by kernel_rfl) (by kernel_rfl) ?_
            repeat (go_big_quiet_step (fail))
            with_reducible refine wpQuiet_nil ?_
            rintro _ ⟨y, rfl⟩
            have gy : Gr [] wa y.w := Gr.ofBelow (cs := []) y.h
            have HSD := Lib.hid (HSD.out.gr0 gy)
            have HSQ := Lib.hid (HSQ.out.gr0 gy)
            have k5 := (gy.cell0 (World.block_lt_of_cell? wa _ k5)).trans k5
            clear p0 p1 p2 kk1 hne gy w1a w2a w2b w3a w4a m1 m2 hs hmx hnz hq0 hz0 hlb hsb hab
            generalize y.w = wb at *
            obtain ⟨R, hR, hS⟩ := HSD.out.ref
            have hn3 : R.n = D.n := hS.n
            have r2 := hR.c2
            rw [hn3] at r2
            have hib : (i4 : Int) < (D.n : Int) := by have := HIN.out; omega
            obtain ⟨n, hn⟩ : ∃ n, n = D.n := ⟨_, rfl⟩
            rw [← hn] at r2 hib
            have HNN := Lib.hid hn
            clear hR hS hn3 hn
            go_wp2_with fail
            refine (break_in a D i4 _ HSD.out.dev HIN.out).mono ?_
            rintro e w5 ⟨rfl, d5, g5⟩
            have g5 := g5.mono (cs := a.all) (fun b hb => by simp at hb; subst hb; simp [DevA.all])
            obtain ⟨R, hR, hS⟩ := (HSD.out.midA HSF.out g5).1
            have H5 := Lib.hid (And.intro d5 g5)
            have k5 := (cell_gr g5 (World.block_lt_of_cell? wb _ k5) HB7.out.1).trans k5
            have hn3 : R.n = n := by rw [hS.n, HNN.out]
            have r2 := hR.c2
            rw [hn3] at r2
            have hi0 : (0 : Int) ≤ (i4 : Int) := by omega
            have rb := hR.badAt (i := i4) (by rw [hn3]; omega)
            have fb : w5.frozen? ⟨r.rb, i4, none⟩ = false := hR.bad.frozen i4
            have HRS := Lib.hid (And.intro hR hS)
            clear d5 g5 hR hS hn3
            generalize R.bad i4 = xb at *
            go_wp2_with fail
            have g6 : Gr r.all w5 (w5.setCell ⟨r.rb, i4, none⟩ (.bool true)) := (grSet w5 r.rb i4 (.bool true)).mono (cs := r.all) (fun b hb => by simp at hb; subst hb; simp [RefA.all])
            have H6 := Lib.hid (show RefIs (w5.setCell ⟨r.rb, i4, none⟩ (.bool true)) r { D with bad := fun j => if j = i4 then true else D.bad j } from by
              have hS := HRS.out.2
              exact ⟨_, HRS.out.1.setBad i4 true, ⟨hS.n, hS.wear, (fun l hl => by show (if l = i4 then true else R.bad l) = (if l = i4 then true else D.bad l); rw [hS.bad l hl]), hS.fuse, hS.off, hS.cnt, hS.med, hS.buf⟩⟩)
            have HZ := Lib.hid (And.intro (HSD.out.moved HSF.out H5.out.1 H5.out.2 H6.out g6 (show Bd _ (12000 + 4400 * k + 4250) from HSD.out.bd.mono (by omega))) (And.intro (HSQ.out.moved H5.out.2 g6) ((cell_gr g6 (World.block_lt_of_cell? w5 _ k5) HB7.out.2.2.2.1).trans k5)))
            clear r2 rb fb k5 g6
            generalize w5.setCell ⟨r.rb, i4, none⟩ (.bool true) = wz at *
            go_meet
            exact ⟨rfl, _, B, j, cs, HZ.out.1, HZ.out.2.1.more (by omega), .inl (HON.out.brk HOK.out.1 HTK.out), by have := HJ.out; omega, by have := HJ.out; omega, HZ.out.2.2⟩
        · as_aux_lemma =>
            clear hs0
            go_wp2_with fail
            clear hs hmx k0 k1 k3
            refine (fuse_any a D xk HA.out.2.2.1.2 _ HSD.out.dev).mono ?_
            rintro e w5 ⟨rfl, d5, g5⟩
            have g5 := g5.mono (cs := a.all) (fun b hb => by simp at hb; subst hb; simp [DevA.all])
            have s1 : w5.cell? ⟨b7, 2, none⟩ = some (.int .i64 xk) := (cell_gr g5 (World.block_lt_of_cell? wa _ k2) HB7.out.1).trans k2
            have k5 := (cell_gr g5 (World.block_lt_of_cell? wa _ k5) HB7.out.1).trans k5
            obtain ⟨R, hR, hS⟩ := (HSD.out.midA HSF.out g5).1
            have H5 := Lib.hid (And.intro d5 g5)
            have r3 := hR.c3
            have f3 := hR.fr 3
            have HRS := Lib.hid (And.intro hR hS)
            clear d5 g5 hR hS k2
            generalize R.fuse = xf at *
            go_wp2_with fail
            have g6 : Gr r.all w5 (w5.setCell ⟨r.rd, 3, none⟩ (.int .i64 (mx xk))) := (grSet w5 r.rd 3 (.int .i64 (mx xk))).mono (cs := r.all) (fun b hb => by simp at hb; subst hb; simp [RefA.all])
            have H6 := Lib.hid (show RefIs (w5.setCell ⟨r.rd, 3, none⟩ (.int .i64 (mx xk))) r { D with fuse := mx xk } from by
              have hS := HRS.out.2
              exact ⟨_, HRS.out.1.setFuse (mx xk), ⟨hS.n, hS.wear, hS.bad, rfl, hS.off, hS.cnt, hS.med, hS.buf⟩⟩)
            have HZ := Lib.hid (And.intro (HSD.out.moved HSF.out H5.out.1 H5.out.2 H6.out g6 (show Bd _ (12000 + 4400 * k + 4250) from HSD.out.bd.mono (by omega))) (And.intro (HSQ.out.moved H5.out.2 g6) ((cell_gr g6 (World.block_lt_of_cell? w5 _ k5) HB7.out.2.2.2.1).trans k5)))
            clear r3 f3 k5 g6 s1 hmr
            generalize w5.setCell ⟨r.rd, 3, none⟩ (.int .i64 (mx xk)) = wz at *
            go_meet
            exact ⟨rfl, _, B, j, cs, HZ.out.1, HZ.out.2.1.more (by omega), .inl (HON.out.fuse (mx xk)), by have := HJ.out; omega, by have := HJ.out; omega, HZ.out.2.2⟩
        · as_aux_lemma =>
            clear hs0
            obtain ⟨R, hR, hS⟩ := HSD.out.ref
            have r4 := hR.c4
            have f4 := hR.fr 4
            have HR0 := Lib.hid (And.intro hR hS)
            clear hR hS
            go_upto_region 35 with fail
            have g4 : Gr [r.rd] wa (wa.setCell ⟨r.rd, 4, none⟩ (.bool true)) := grSet wa r.rd 4 (.bool true)
            have HR1 := Lib.hid (show RefRow (wa.setCell ⟨r.rd, 4, none⟩ (.bool true)) r { R with off := true } from HR0.out.1.setOff true)
            have g4a := g4.mono (cs := r.all) (fun b hb => by simp at hb; subst hb; simp [RefA.all])
            have H4 := Lib.hid (And.intro (HSD.out.dev.gr g4a (fun x hx => HSF.out.ar x hx)) (And.intro g4a ((cell_gr g4a (World.block_lt_of_cell? wa _ k5) HB7.out.2.2.2.1).trans k5)))
            clear g4 g4a r4 f4 k0 k1 k2 k3 k5 hs hmx hmr
            generalize wa.setCell ⟨r.rd, 4, none⟩ (.bool true) = w4 at *
            go_wp2_with fail
            refine (fuse_any a D 1 (by omega) _ H4.out.1).mono ?_
            rintro e w5 ⟨rfl, d5, g5⟩
            have g5 := g5.mono (cs := a.all) (fun b hb => by simp at hb; subst hb; simp [DevA.all])
            have H5 := Lib.hid (And.intro d5 g5)
            clear d5 g5
            go_wp2_with fail
            refine (fence_any a _ _ H5.out.1 (by have := HSD.out.bd.1; show D.cnt < _; omega) (fun l => by have := HSD.out.bd.2 l; show 0 ≤ D.wear l ∧ D.wear l < _; omega)).mono ?_
            rintro e w6 ⟨rfl, d6, g6⟩
            have hd6 : opD { D with fuse := mx 1 } true fenceF = { D with fuse := 0, off := true } := by
              unfold opD reachE
              rw [show ({ D with fuse := mx 1 } : DevS).off = false from HON.out.live.off]
              rfl
            rw [hd6] at d6
            have g56 := H5.out.2.trans g6
            have H6 := Lib.hid (And.intro d6 (And.intro g56 (And.intro (HR1.out.gr g56 (fun x hx hy => HSF.out.ar x hy hx)) ((cell_gr g56 (World.block_lt_of_cell? w4 _ H4.out.2.2) HB7.out.1).trans H4.out.2.2))))
            clear d6 g6 hd6 g56 H5
            have r3 := H6.out.2.2.1.c3
            have f3 := H6.out.2.2.1.fr 3
            go_wp2_with fail
            have g7 : Gr r.all w6 (w6.setCell ⟨r.rd, 3, none⟩ (.int .i64 0)) := (grSet w6 r.rd 3 (.int .i64 0)).mono (cs := r.all) (fun b hb => by simp at hb; subst hb; simp [RefA.all])
            have H7 := Lib.hid (show RefIs (w6.setCell ⟨r.rd, 3, none⟩ (.int .i64 0)) r { D with fuse := 0, off := true } from by
              have hS := HR0.out.2
              exact ⟨_, H6.out.2.2.1.setFuse 0, ⟨hS.n, hS.wear, hS.bad, rfl, rfl, hS.cnt, hS.med, hS.buf⟩⟩)
            have gA : Gr a.all wa wa := Gr.refl _ _
            have HZ := Lib.hid (show RPD w (w6.setCell ⟨r.rd, 3, none⟩ (.int .i64 0)) a r P pb { D with fuse := 0, off := true } (12000 + 4400 * k + 4250) ∧ RPQ w (w6.setCell ⟨r.rd, 3, none⟩ (.int .i64 0)) a r P pb kb q rq B (64 + 192 * k) j cs ∧ (w6.setCell ⟨r.rd, 3, none⟩ (.int .i64 0)).cell? ⟨b7, 5, none⟩ = some (.slice xao xkl xkc) from
              ⟨⟨H6.out.1.gr g7 (fun x hx => HSF.out.ar x hx), H7.out, HSD.out.bd.mono (by omega), ((HSD.out.pl.gr H4.out.2.1 HSF.out.pr).gr H6.out.2.1 HSF.out.pa).gr g7 HSF.out.pr, ((HSD.out.gr.nextN H4.out.2.1 fun x hx => .inr (HSF.out.lr x hx)).nextN H6.out.2.1 fun x hx => .inr (HSF.out.la x hx)).nextN g7 fun x hx => .inr (HSF.out.lr x hx)⟩,
               (HSQ.out.moved gA H4.out.2.1).moved H6.out.2.1 g7, (cell_gr g7 (World.block_lt_of_cell? w6 _ H6.out.2.2.2) HB7.out.2.2.2.1).trans H6.out.2.2.2⟩)
            clear r3 f3 g7 H4 H6 H7 HR1 HR0 gA
            generalize w6.setCell ⟨r.rd, 3, none⟩ (.int .i64 0) = wz at *
            go_meet
            exact ⟨rfl, _, B, j, cs, HZ.out.1, HZ.out.2.1.more (by omega), .inr (HON.out.out HOK.out.1), by have := HJ.out; omega, by have := HJ.out; omega, HZ.out.2.2⟩
      case rest =>
        obtain ⟨rfl, DD, BB, j2, cs2, sd, sq, onf, hj2, hcs2, k5⟩ := hcut
        obtain ⟨wz, hwz⟩ : ∃ wz, wz = wc := ⟨_, rfl⟩
        rw [← hwz] at sd sq k5 ⊢
        clear hwz HSD HSQ HON k0 k1 k2 k3 hs hmx hmr
        have HSD := Lib.hid sd
        have HSQ := Lib.hid sq
        have HJ2 := Lib.hid (And.intro hj2 hcs2)
        clear sd sq hj2 hcs2
        go_wp2_with fail
        refine (media7_any a r DD _ HSD.out.dev HSD.out.ref).mono ?_
        rintro e w6 ⟨rfl, g6⟩
        have HSD := Lib.hid (HSD.out.gr0 g6)
        have HSQ := Lib.hid (HSQ.out.gr0 g6)
        have k5 := (g6.cell0 (World.block_lt_of_cell? _ _ k5)).trans k5
        clear g6
        have c4 := HSD.out.ref.c4
        rcases onf with on | off
        · as_aux_lemma =>
            have HON := Lib.hid on
            rw [on.live.off] at c4
            clear on
            go_wp2_with fail
            clear c4 k5
            refine (reads07 HOK.out.1 HSD.out.dev HSD.out.ref HSQ.out.rg HSQ.out.rh HON.out (by have := HJ2.out; omega) (by have := HJ2.out; omega)).mono ?_
            rintro e w7 ⟨rfl, g7⟩
            have HSD := Lib.hid (HSD.out.gr0 g7)
            have HSQ := Lib.hid (HSQ.out.gr0 g7)
            clear g7
            go_wp2_with fail
            go_roundw
            case rel => exact ⟨k + 1, DD, BB, kb, q, rq, j2, cs2, by omega, by go_num, rfl, rfl, HSD.out.more (by omega), HSQ.out.more (by omega), HON.out, by have := HJ2.out; omega, by have := HJ2.out; omega⟩
            case measure => simp [intOf]; omega
        · as_aux_lemma =>
            have HOF := Lib.hid off
            rw [off.1] at c4
            clear off
            go_upto_region 41 with fail
            clear c4
            go_cut [22] (fun kv wz => wz = w6 ∧ ∃ (kl : Nat) (kp : Nat → Bool), ∀ W, Gr [] w W → KeepIs W kv kl kp)
            case first =>
              have HKN := Lib.hid HA.out.2.2.2.2.2.2.2.2
              have hkl1 : xkl ≤ xkc := HA.out.2.2.2.2.2.2.1
              have hkl2 : xkc ≤ 9223372036854775807 := by have := HA.out.2.2.2.2.2.2.2.1; unfold maxLen at this; simp only at this; omega
              cases xao with
              | none =>
                obtain rfl : xkc = 0 := HKN.out rfl
                obtain rfl : xkl = 0 := by omega
                have hmk := minIs7 Tryz.prog 0 0 30 30 rfl rfl
                go_wp2_with fail
                go_meet
                exact ⟨rfl, 0, fun _ => false, fun W g => ⟨none, 0, rfl, (fun j hj => by omega), (fun _ _ => rfl), Nat.zero_le _⟩⟩
              | some ad =>
                by_cases h0 : xkl = 0
                · subst h0
                  have hmk := minIs7 Tryz.prog 0 0 30 30 rfl rfl
                  go_wp2_with fail
                  go_meet
                  exact ⟨rfl, 0, fun _ => false, fun W g => ⟨some ad, _, rfl, (fun j hj => by omega), (fun _ _ => rfl), Nat.zero_le _⟩⟩
                · obtain ⟨bk, ok, hbo, _⟩ := HKP.out 0 (by omega)
                  obtain rfl := Option.some.inj hbo
                  obtain ⟨mk, hmk0⟩ : ∃ m, m = min xkl 30 := ⟨_, rfl⟩
                  have hmk := minIs7 Tryz.prog xkl mk 30 30 rfl hmk0
                  have hm1 : mk ≤ xkl := by omega
                  have HM2 := Lib.hid (show mk ≤ xkl ∧ mk ≤ 30 by omega)
                  clear hmk0 hbo h0
                  go_wp2_with fail
                  go_meet
                  refine ⟨rfl, mk, fun j => if j < mk then xkp j else false, fun W g => ⟨some ⟨bk, ok, none⟩, _, rfl, (fun j hj => ?_), (fun j hj => if_neg (by omega)), Nat.le_trans HM2.out.2 (by unfold maxLen; omega)⟩⟩
                  obtain ⟨b', o', q1, q2, q3⟩ := HKP.out j (by have := HM2.out; omega)
                  obtain ⟨rfl, rfl⟩ : bk = b' ∧ ok = o' := by cases q1; exact ⟨rfl, rfl⟩
                  refine ⟨bk, ok, rfl, Nat.lt_of_lt_of_le q2 g.size, ?_⟩
                  rw [g.cell0 q2, q3]
                  show some (Value.bool (xkp j)) = some (Value.bool (if j < mk then xkp j else false))
                  rw [if_pos hj]
            case rest =>
              obtain ⟨rfl, kl, kp, hki⟩ := hcut
              have HK24 := Lib.hid hki
              clear hki k5
              have HBt := Lib.hid (boot_any a DD _ kl kp _ HSD.out.dev (HK24.out _ HSD.out.gr) (fun l => by have := HSD.out.bd.2 l; omega) (by have := HSD.out.bd.1; omega))
              go_wp2_with fail
              refine HBt.out.mono ?_
              rintro e v5 ⟨rfl, ⟨LB, hLB, d5⟩, g5⟩
              obtain ⟨mr, mg⟩ := HSD.out.midA HSF.out g5
              have HLB := Lib.hid (ref_boot _ kl kp LB mr (HK24.out _ mg) (fun l => by have := HSD.out.bd.2 l; omega) HSD.out.dev.ok.sup hLB)
              obtain ⟨B16, j16, hj16, hon16, hti16⟩ := OnR.boot HOK.out.1 (B := BB) (.inr HOF.out) kp hLB
              obtain ⟨D16, hD16⟩ : ∃ D16, D16 = bootD DD LB kp := ⟨_, rfl⟩
              rw [← hD16] at hon16 hti16 d5 HLB
              have HB16 := Lib.hid (show Bd D16 (12000 + 4400 * k + 4300) by rw [hD16]; exact (boot_bd HSD.out.bd).mono (by omega))
              have H5 := Lib.hid (And.intro d5 (And.intro g5 (And.intro hon16 hti16)))
              have HJ16 := Lib.hid (show j16 ≤ 2 * k + 2 by have := HJ2.out; omega)
              clear d5 g5 hLB mr mg hon16 hti16 hD16 HBt hj16
              go_wp2_with fail
              refine HLB.out.mono ?_
              rintro e v6 ⟨rfl, r6, g6⟩
              have HSD := Lib.hid (HSD.out.moved HSF.out H5.out.1 H5.out.2.1 r6 g6 HB16.out)
              clear r6 g6 HLB HB16
              have p0 := HSD.out.pl.cell 0
              have p1 := HSD.out.pl.cell 1
              have p2 := HSD.out.pl.cell 2
              have p3 := HSD.out.pl.cell 3
              have HCK := Lib.hid (show checkZ (bankR P) (D16.n : Int) = 0 by
                have := H5.out.2.2.2.fits
                unfold checkZ
                rw [if_pos HOK.out.1.ok, if_neg (by omega)])
              have HOp := Lib.hid (show Calls Tryz.prog 20 #[.pointer (some ⟨a.bd, 0, none⟩), .agg #[.int .i64 P.a, .int .i64 (P.l : Int), .int .i64 P.s, .int .i64 P.psi]] v6 fun e w' => ∃ (kb : Nat) (q : BkA), e = .returned (.tuple #[.pointer (some ⟨kb, 0, none⟩), .int .i64 0]) ∧ RgIs w' kb q a P B16 64 j16 0 ∧ (∀ x ∈ kb :: q.all, v6.heap.size ≤ x) ∧ Gr [] v6 w' from by
                obtain ⟨T, t1, t2, t3⟩ := cnt_read H5.out.2.2.2 HOK.out.1.ok HSD.out.dev.ok.medB (inR P (z := (P.l : Int) + 1) (by omega) (by omega))
                exact rgopen_ok (P := P) HOK.out.1 HSD.out.dev H5.out.2.2.2.calm.off HCK.out H5.out.2.2.2.opens t1 ((t3 0 (by omega)).trans H5.out.2.2.1.reg) (by unfold maxLen; omega) (by have := HJ16.out; have := HJ.out; omega))
              go_wp2_with fail
              refine HOp.out.mono ?_
              rintro e v7 ⟨kb7, q7, rfl, rg7, hq7, g7⟩
              have HSD7 := Lib.hid (HSD.out.gr0 g7)
              have HRG := Lib.hid (And.intro rg7 (And.intro hq7 (And.intro HSD.out.pl.lt (And.intro HSD.out.gr.size g7.size))))
              have HRL := Lib.hid HSD.out.ref.lt
              have HON := Lib.hid H5.out.2.2.1
              clear rg7 hq7 g7 p0 p1 p2 p3 HOp HCK H5 HSD
              have p0 := HSD7.out.pl.cell 0
              have p1 := HSD7.out.pl.cell 1
              have p2 := HSD7.out.pl.cell 2
              have p3 := HSD7.out.pl.cell 3
              go_upto_region 49 with fail
              have hrh := Holds.new v7 #[.int .i64 P.a, .int .i64 (P.l : Int), .int .i64 P.s, .int .i64 P.psi, .int .i64 0] 34
              have ga := (Gr.refl [] v7).alloc (Obj.cells #[.int .i64 P.a, .int .i64 (P.l : Int), .int .i64 P.s, .int .i64 P.psi, .int .i64 0] 34)
              have HSQ := Lib.hid (show RPQ w _ a r P pb kb7 q7 v7.heap.size B16 64 j16 0 from ⟨HRG.out.1.gr0 ga, hrh, fun x hx hy => by have := HRG.out.2.1 x hx; have := HRL.out x hy; omega, fun x hx => Nat.le_trans HRG.out.2.2.2.1 (HRG.out.2.1 x hx), fun hx => by have := HRG.out.2.1 _ hx; have := HRG.out.2.2.1; omega, fun hx => by have := HSD7.out.ref.lt _ hx; omega, fun hx => by have := HSD7.out.dev.lt _ hx; omega, fun hx => by
                rcases List.mem_cons.1 hx with e | hx
                · have := HRG.out.1.head.lt; omega
                · have := HRG.out.1.bk.lt _ hx; omega, fun e => by have := HSD7.out.pl.lt; omega, HSD7.out.gr.size⟩)
              have HSD := Lib.hid (HSD7.out.gr0 ga)
              clear hrh ga p0 p1 p2 p3 HRG HRL HSD7
              generalize (v7.alloc (Obj.cells #[.int .i64 P.a, .int .i64 (P.l : Int), .int .i64 P.s, .int .i64 P.psi, .int .i64 0] 34)) = v8 at *
              obtain ⟨rq8, hrq⟩ : ∃ rq, v7.heap.size = rq := ⟨_, rfl⟩
              rw [hrq] at HSQ ⊢
              clear hrq
              go_wp2_with fail
              refine (reads07 HOK.out.1 HSD.out.dev HSD.out.ref HSQ.out.rg HSQ.out.rh HON.out (by have := HJ16.out; have := HJ.out; omega) (by omega)).mono ?_
              rintro e v9 ⟨rfl, g9⟩
              have HSD := Lib.hid (HSD.out.gr0 g9)
              have HSQ := Lib.hid (HSQ.out.gr0 g9)
              clear g9
              go_wp2_with fail
              go_roundw
              case rel => exact ⟨k + 1, D16, B16, kb7, q7, rq8, j16, 0, by omega, by go_num, rfl, rfl, HSD.out.more (by omega), HSQ.out.more (by omega), HON.out, by have := HJ16.out; omega, by omega⟩
              case measure => simp [intOf]; omega
    · obtain rfl : k = M := by omega
      have ij : ¬ ((k : Int) < (k : Int)) := by omega
      have HG := Lib.hid sd.gr
      clear sd sq on
      go_wp2_with fail
      go_ret
      exact ⟨rfl, HG.out⟩
end Go.Proofs.YtdgcninmpcmdcaaGreat

/-
  RingPlays, no act; whole.
-/
namespace Go.Proofs.YtdgcninmpcmdcaaGreat
open Go.ChangeShapes Go.WideShapes Go.ChangeAt Go.RowKit
set_option linter.unusedVariables false

set_option maxRecDepth 100000 in
set_option maxHeartbeats 40000000 in
theorem plays7_nil (x0 x1 x2 x3 : Int) (w : World) :
    Calls Tryz.prog 3 #[.agg #[.int .i64 x0, .int .i64 x1, .int .i64 x2, .int .i64 x3], .slice none 0 0] w fun e w' => e = .returned (.bool true) ∧ Gr [] w w' := by
  have hmn := minIs7 Tryz.prog 0 0 30 30 rfl rfl
  have HSm := Lib.hid (fun W => small07 x0 x1 x2 x3 W)
  obtain ⟨t1, t2, t3, t4, t5, t6, t7, t8⟩ := smallR_ok x0 x1 x2 x3
  obtain ⟨P, hP⟩ : ∃ P, P = smallR x0 x1 x2 x3 := ⟨_, rfl⟩
  rw [← hP] at HSm t1 t2 t3 t4 t5 t6 t7 t8
  obtain ⟨oP, fP⟩ := small_okR t2 t1 t3 t4 t5 t6 t7 t8
  have HOK := Lib.hid (And.intro oP (And.intro t1 (And.intro t3 (And.intro t4 (And.intro t7 t8)))))
  unfold planRV at HSm
  have HPr := Lib.hid (fun W => show Calls Tryz.prog 6 #[.agg #[.int .i64 P.a, .int .i64 (P.l : Int), .int .i64 P.s, .int .i64 P.psi]] W _ from pair07 oP (by omega) W)
  have HG0 := Lib.hid ((Gr.refl [] w).alloc (Obj.cells #[.int .i64 x0, .int .i64 x1, .int .i64 x2, .int .i64 x3] 22))
  have hs7 : (P.s + 7).tdiv 8 = (P.s + 7) / 8 := Int.tdiv_eq_ediv_of_nonneg (by omega)
  have hs8 : IntKind.i64.wrap (P.s + 7) = P.s + 7 := IntWalk.i64_in _ (by omega)
  have hs9 : 0 ≤ P.s ∧ P.s ≤ 8 := ⟨t7, t8⟩
  clear hP t1 t2 t3 t4 t5 t6 t7 t8 oP fP
  go_enter Tryz.func3, Tryz.ntmps3
  go_wp2_with fail
  generalize (w.alloc (Obj.cells #[.int .i64 x0, .int .i64 x1, .int .i64 x2, .int .i64 x3] 22)) = w1 at *
  refine (HSm.out _).mono ?_
  rintro e w2 ⟨rfl, g2⟩
  have HG2 := Lib.hid (HG0.out.trans g2)
  have HHo := Holds.new w2 #[.int .i64 P.a, .int .i64 (P.l : Int), .int .i64 P.s, .int .i64 P.psi] 25
  have HGa := Lib.hid (HG2.out.next0 ((Gr.refl [] w2).alloc (Obj.cells #[.int .i64 P.a, .int .i64 (P.l : Int), .int .i64 P.s, .int .i64 P.psi] 25)))
  clear g2 HG0 HG2
  go_upto_region 2 with fail
  generalize (w2.alloc (Obj.cells #[.int .i64 P.a, .int .i64 (P.l : Int), .int .i64 P.s, .int .i64 P.psi] 25)) = w3 at *
  obtain ⟨pb, hpb⟩ : ∃ pb, w2.heap.size = pb := ⟨_, rfl⟩
  rw [hpb] at HHo ⊢
  clear hpb
  have p0 := HHo.cell 0
  have p1 := HHo.cell 1
  have p2 := HHo.cell 2
  have p3 := HHo.cell 3
  have HH3 := Lib.hid HHo
  clear HHo
  go_wp2_with fail
  refine (HPr.out _).mono ?_
  rintro e w4 ⟨a, kb, q, r, F, rfl, pr⟩
  have HSF := Lib.hid (show RPF w a r pb from ⟨pr.ar, (fun c => by have := pr.na _ c; have := HH3.out.lt; omega), (fun c => by have := pr.nr _ c; have := HH3.out.lt; omega), (fun x hx => Nat.le_trans HGa.out.size (pr.na x hx)), (fun x hx => Nat.le_trans HGa.out.size (pr.nr x hx))⟩)
  have HSD := Lib.hid (show RPD w w4 a r P pb F 12000 from ⟨pr.dev, pr.ref, pr.bd, HH3.out.gr0 pr.gr, HGa.out.trans pr.gr⟩)
  have HPR := Lib.hid pr
  have HPW := Lib.hid (show pb < w3.heap.size ∧ w.heap.size ≤ w3.heap.size from ⟨HH3.out.lt, HGa.out.size⟩)
  have p0 := HSD.out.pl.cell 0
  have p1 := HSD.out.pl.cell 1
  have p2 := HSD.out.pl.cell 2
  have p3 := HSD.out.pl.cell 3
  clear pr HH3 HGa HPr HSm
  go_upto_region 4 with fail
  have hrh := Holds.new w4 #[.int .i64 P.a, .int .i64 (P.l : Int), .int .i64 P.s, .int .i64 P.psi, .int .i64 0] 34
  have ga := (Gr.refl [] w4).alloc (Obj.cells #[.int .i64 P.a, .int .i64 (P.l : Int), .int .i64 P.s, .int .i64 P.psi, .int .i64 0] 34)
  have HSQ := Lib.hid (show RPQ w _ a r P pb kb q w4.heap.size B0 64 0 0 from ⟨HPR.out.rg.gr0 ga, hrh, fun x hx => (HPR.out.nq x hx).2, fun x hx => Nat.le_trans HPW.out.2 (HPR.out.nq x hx).1, fun hx => by have := (HPR.out.nq _ hx).1; have := HPW.out.1; omega, fun hx => by have := HPR.out.ref.lt _ hx; omega, fun hx => by have := HPR.out.dev.lt _ hx; omega, fun hx => by
    rcases List.mem_cons.1 hx with e | hx
    · have := HPR.out.rg.head.lt; omega
    · have := HPR.out.rg.bk.lt _ hx; omega, fun e => by have := HSD.out.pl.lt; omega, HSD.out.gr.size⟩)
  have HSD := Lib.hid (HSD.out.gr0 ga)
  have HON := Lib.hid (show OnR P F B0 0 from ⟨⟨HPR.out.gd.calm.off, HPR.out.gd.calm.buf⟩, (RgC.of HOK.out.1 HPR.out.gd (F := fun i k => wdR P F 0 i k) (E := F) (fun _ _ _ _ => rfl) rfl HPR.out.gd.calm.off rfl rfl (fun l _ _ => by rw [HPR.out.gd.bad])).1.ti, (RgC.of HOK.out.1 HPR.out.gd (F := fun i k => wdR P F 0 i k) (E := F) (fun _ _ _ _ => rfl) rfl HPR.out.gd.calm.off rfl rfl (fun l _ _ => by rw [HPR.out.gd.bad])).1.reg⟩)
  clear hrh ga p0 p1 p2 p3 HPR HPW
  generalize (w4.alloc (Obj.cells #[.int .i64 P.a, .int .i64 (P.l : Int), .int .i64 P.s, .int .i64 P.psi, .int .i64 0] 34)) = w5 at *
  obtain ⟨rq, hrq⟩ : ∃ rq, w4.heap.size = rq := ⟨_, rfl⟩
  rw [hrq] at HSQ ⊢
  clear hrq
  go_wp2_with fail
  refine (wakes07 _).mono ?_
  rintro e w6 ⟨rfl, g6⟩
  have HSD := Lib.hid (HSD.out.gr0 g6)
  have HSQ := Lib.hid (HSQ.out.gr0 g6)
  clear g6
  go_wp2_with fail
  refine (media7_any a r F _ HSD.out.dev HSD.out.ref).mono ?_
  rintro e w7 ⟨rfl, g7⟩
  have HSD := Lib.hid (HSD.out.gr0 g7)
  have HSQ := Lib.hid (HSQ.out.gr0 g7)
  clear g7
  have p2 := HSD.out.pl.cell 2
  obtain ⟨hs0, hs1⟩ := hs9
  go_wp2_with fail
  refine wp_loop_rounds 1 ?_
  rw [rounds_succ]
  go_wp2_with fail
  go_ret
  exact ⟨rfl, HSD.out.gr⟩
set_option maxRecDepth 100000 in
set_option maxHeartbeats 40000000 in
theorem plays7_empty (x0 x1 x2 x3 : Int) (ad : Addr) (cap : Nat) (w : World) (hmax : cap ≤ maxLen) :
    Calls Tryz.prog 3 #[.agg #[.int .i64 x0, .int .i64 x1, .int .i64 x2, .int .i64 x3], .slice (some ad) 0 cap] w fun e w' => e = .returned (.bool true) ∧ Gr [] w w' := by
  have hmn := minIs7 Tryz.prog 0 0 30 30 rfl rfl
  unfold maxLen at hmax
  have HSm := Lib.hid (fun W => small07 x0 x1 x2 x3 W)
  obtain ⟨t1, t2, t3, t4, t5, t6, t7, t8⟩ := smallR_ok x0 x1 x2 x3
  obtain ⟨P, hP⟩ : ∃ P, P = smallR x0 x1 x2 x3 := ⟨_, rfl⟩
  rw [← hP] at HSm t1 t2 t3 t4 t5 t6 t7 t8
  obtain ⟨oP, fP⟩ := small_okR t2 t1 t3 t4 t5 t6 t7 t8
  have HOK := Lib.hid (And.intro oP (And.intro t1 (And.intro t3 (And.intro t4 (And.intro t7 t8)))))
  unfold planRV at HSm
  have HPr := Lib.hid (fun W => show Calls Tryz.prog 6 #[.agg #[.int .i64 P.a, .int .i64 (P.l : Int), .int .i64 P.s, .int .i64 P.psi]] W _ from pair07 oP (by omega) W)
  have HG0 := Lib.hid ((Gr.refl [] w).alloc (Obj.cells #[.int .i64 x0, .int .i64 x1, .int .i64 x2, .int .i64 x3] 22))
  have hs7 : (P.s + 7).tdiv 8 = (P.s + 7) / 8 := Int.tdiv_eq_ediv_of_nonneg (by omega)
  have hs8 : IntKind.i64.wrap (P.s + 7) = P.s + 7 := IntWalk.i64_in _ (by omega)
  have hs9 : 0 ≤ P.s ∧ P.s ≤ 8 := ⟨t7, t8⟩
  clear hP t1 t2 t3 t4 t5 t6 t7 t8 oP fP
  go_enter Tryz.func3, Tryz.ntmps3
  go_wp2_with fail
  generalize (w.alloc (Obj.cells #[.int .i64 x0, .int .i64 x1, .int .i64 x2, .int .i64 x3] 22)) = w1 at *
  refine (HSm.out _).mono ?_
  rintro e w2 ⟨rfl, g2⟩
  have HG2 := Lib.hid (HG0.out.trans g2)
  have HHo := Holds.new w2 #[.int .i64 P.a, .int .i64 (P.l : Int), .int .i64 P.s, .int .i64 P.psi] 25
  have HGa := Lib.hid (HG2.out.next0 ((Gr.refl [] w2).alloc (Obj.cells #[.int .i64 P.a, .int .i64 (P.l : Int), .int .i64 P.s, .int .i64 P.psi] 25)))
  clear g2 HG0 HG2
  go_upto_region 2 with fail
  generalize (w2.alloc (Obj.cells #[.int .i64 P.a, .int .i64 (P.l : Int), .int .i64 P.s, .int .i64 P.psi] 25)) = w3 at *
  obtain ⟨pb, hpb⟩ : ∃ pb, w2.heap.size = pb := ⟨_, rfl⟩
  rw [hpb] at HHo ⊢
  clear hpb
  have p0 := HHo.cell 0
  have p1 := HHo.cell 1
  have p2 := HHo.cell 2
  have p3 := HHo.cell 3
  have HH3 := Lib.hid HHo
  clear HHo
  go_wp2_with fail
  refine (HPr.out _).mono ?_
  rintro e w4 ⟨a, kb, q, r, F, rfl, pr⟩
  have HSF := Lib.hid (show RPF w a r pb from ⟨pr.ar, (fun c => by have := pr.na _ c; have := HH3.out.lt; omega), (fun c => by have := pr.nr _ c; have := HH3.out.lt; omega), (fun x hx => Nat.le_trans HGa.out.size (pr.na x hx)), (fun x hx => Nat.le_trans HGa.out.size (pr.nr x hx))⟩)
  have HSD := Lib.hid (show RPD w w4 a r P pb F 12000 from ⟨pr.dev, pr.ref, pr.bd, HH3.out.gr0 pr.gr, HGa.out.trans pr.gr⟩)
  have HPR := Lib.hid pr
  have HPW := Lib.hid (show pb < w3.heap.size ∧ w.heap.size ≤ w3.heap.size from ⟨HH3.out.lt, HGa.out.size⟩)
  have p0 := HSD.out.pl.cell 0
  have p1 := HSD.out.pl.cell 1
  have p2 := HSD.out.pl.cell 2
  have p3 := HSD.out.pl.cell 3
  clear pr HH3 HGa HPr HSm
  go_upto_region 4 with fail
  have hrh := Holds.new w4 #[.int .i64 P.a, .int .i64 (P.l : Int), .int .i64 P.s, .int .i64 P.psi, .int .i64 0] 34
  have ga := (Gr.refl [] w4).alloc (Obj.cells #[.int .i64 P.a, .int .i64 (P.l : Int), .int .i64 P.s, .int .i64 P.psi, .int .i64 0] 34)
  have HSQ := Lib.hid (show RPQ w _ a r P pb kb q w4.heap.size B0 64 0 0 from ⟨HPR.out.rg.gr0 ga, hrh, fun x hx => (HPR.out.nq x hx).2, fun x hx => Nat.le_trans HPW.out.2 (HPR.out.nq x hx).1, fun hx => by have := (HPR.out.nq _ hx).1; have := HPW.out.1; omega, fun hx => by have := HPR.out.ref.lt _ hx; omega, fun hx => by have := HPR.out.dev.lt _ hx; omega, fun hx => by
    rcases List.mem_cons.1 hx with e | hx
    · have := HPR.out.rg.head.lt; omega
    · have := HPR.out.rg.bk.lt _ hx; omega, fun e => by have := HSD.out.pl.lt; omega, HSD.out.gr.size⟩)
  have HSD := Lib.hid (HSD.out.gr0 ga)
  have HON := Lib.hid (show OnR P F B0 0 from ⟨⟨HPR.out.gd.calm.off, HPR.out.gd.calm.buf⟩, (RgC.of HOK.out.1 HPR.out.gd (F := fun i k => wdR P F 0 i k) (E := F) (fun _ _ _ _ => rfl) rfl HPR.out.gd.calm.off rfl rfl (fun l _ _ => by rw [HPR.out.gd.bad])).1.ti, (RgC.of HOK.out.1 HPR.out.gd (F := fun i k => wdR P F 0 i k) (E := F) (fun _ _ _ _ => rfl) rfl HPR.out.gd.calm.off rfl rfl (fun l _ _ => by rw [HPR.out.gd.bad])).1.reg⟩)
  clear hrh ga p0 p1 p2 p3 HPR HPW
  generalize (w4.alloc (Obj.cells #[.int .i64 P.a, .int .i64 (P.l : Int), .int .i64 P.s, .int .i64 P.psi, .int .i64 0] 34)) = w5 at *
  obtain ⟨rq, hrq⟩ : ∃ rq, w4.heap.size = rq := ⟨_, rfl⟩
  rw [hrq] at HSQ ⊢
  clear hrq
  go_wp2_with fail
  refine (wakes07 _).mono ?_
  rintro e w6 ⟨rfl, g6⟩
  have HSD := Lib.hid (HSD.out.gr0 g6)
  have HSQ := Lib.hid (HSQ.out.gr0 g6)
  clear g6
  go_wp2_with fail
  refine (media7_any a r F _ HSD.out.dev HSD.out.ref).mono ?_
  rintro e w7 ⟨rfl, g7⟩
  have HSD := Lib.hid (HSD.out.gr0 g7)
  have HSQ := Lib.hid (HSQ.out.gr0 g7)
  clear g7
  have p2 := HSD.out.pl.cell 2
  obtain ⟨hs0, hs1⟩ := hs9
  go_wp2_with fail
  refine wp_loop_rounds 1 ?_
  rw [rounds_succ]
  go_wp2_with fail
  go_ret
  exact ⟨rfl, HSD.out.gr⟩
theorem walk_RingPlays (a0 : List Int) (v1 : Value) {w : World} (l0 : a0.length = 4) (w0 : ∀ x ∈ a0, (Lit.int .i64 x).wf = true) (s1 : SlL w v1) :
    Calls Tryz.prog 3 #[.agg (a0.map (Value.int .i64)).toArray, v1] w fun e w' => e = .returned (.bool true) ∧ Below w.heap.size w w' := by
  match a0, l0 with
  | [x, y, z, t], _ =>
    rcases s1 with ⟨ao, cap, rfl, hn, hm⟩ | ⟨b, off, n, cap, xs, rfl, h1, h2, h3, h4, h5⟩
    · cases ao with
      | none =>
        obtain rfl := hn rfl
        exact (plays7_nil x y z t w).mono fun _ _ q => ⟨q.1, q.2.below0⟩
      | some ad => exact (plays7_empty x y z t ad cap w hm).mono fun _ _ q => ⟨q.1, q.2.below0⟩
    · exact (plays7_some x y z t b off n cap xs w h1 h2 h3 h4 h5).mono fun _ _ q => ⟨q.1, q.2.below0⟩
end Go.Proofs.YtdgcninmpcmdcaaGreat
