/-
  LinePlays, the walk.
-/
import Derived.Test.YtphaaebbofgdnaaLnM
import Derived.Deep.CutBlock
import Derived.Deep.DeepCutAuto
namespace Go.Proofs.Ytphaaebbofgdnaa
open Go.ChangeShapes Go.WideShapes Go.ChangeAt Go.RowKit

set_option maxRecDepth 100000 in
set_option maxHeartbeats 40000000 in
theorem lplays_some (b off L cap : Nat) (acts : Nat → ActL) (w : World) (hpos : 0 < L) (hcap : L ≤ cap) (hmax : cap ≤ maxLen) (hlt : b < w.heap.size) (hx : ∀ i, i < L → ActLIs w (acts i) ∧ ActLAt w b (off + i * 6) (acts i)) :
    Calls Try.prog 7 #[.slice (some ⟨b, off, none⟩) L cap] w fun e w' => e = .returned (.bool true) ∧ Gr [] w w' := by
  obtain ⟨M, hM⟩ : ∃ M, M = min L 40 := ⟨_, rfl⟩
  have hmn := minIsR Try.prog L M 40 40 rfl hM
  have hM1 : M ≤ L := by omega
  have hM2 : M ≤ 40 := by omega
  have HX := Lib.hid hx
  unfold maxLen at hmax
  clear hx hM
  go_enter Try.func7, Try.ntmps7
  go_wp2_with fail
  refine (pmnew_yes 3 _ (by omega) (by omega)).mono ?_
  rintro e w1 ⟨a, rfl, d1, hlo, g1⟩
  have HLO := Lib.hid hlo
  clear hlo
  go_wp2_with fail
  refine (rnew_any 3 _ (by omega) (by omega)).mono ?_
  rintro e w2 ⟨r, rfl, r2, hro, g2⟩
  have HSEP := Lib.hid (show ∀ x ∈ a.all, x ∉ r.all from fun x hx hr => by have := d1.lt x hx; have := hro x hr; omega)
  have HRO := Lib.hid (show ∀ x ∈ r.all, w.heap.size ≤ x from fun x hx => by have := hro x hx; have := g1.size; omega)
  have d2 := d1.gr0 g2
  have g2 := g1.trans g2
  have R2 : RefIs w2 r (newD 3) := ⟨_, r2, Says.new 3⟩
  clear d1 g1 r2 hro
  go_wp2_with fail
  refine (wakes04 _).mono ?_
  rintro e w3 ⟨rfl, q3⟩
  have HD := Lib.hid (And.intro (d2.gr0 q3) (And.intro (R2.gr0 q3) (g2.trans q3)))
  clear d2 R2 g2 q3
  go_wp2_with fail
  clear hmn
  go_loopw [38] (fun i wr => ∃ (k : Nat) (D : DevS), k ≤ M ∧ i = .int .i64 k ∧ DevIs wr a D ∧ RefIs wr r D ∧ D.n = 3 ∧ Bd D (10 * k) ∧ Gr [] w wr) (fun i _ => M - (intOf i).toNat)
  case atStart => exact ⟨0, newD 3, by omega, rfl, HD.out.1, HD.out.2.1, rfl, ⟨Nat.le_refl _, fun l => ⟨Int.le_refl _, Int.le_refl _⟩⟩, HD.out.2.2⟩
  case round =>
    clear HD
    obtain ⟨k, D, hk, rfl, d4, r4, n4, b4, g4⟩ := hrel
    by_cases hkM : k < M
    · have hx := HX.out k (by omega)
      have HA := Lib.hid hx.1
      obtain ⟨e0, e1, e2, e3, e4, e5⟩ := hx.2
      have e0 := (g4.cell0 hlt).trans e0
      have e1 := (g4.cell0 hlt).trans e1
      have e2 := (g4.cell0 hlt).trans e2
      have e3 := (g4.cell0 hlt).trans e3
      have e4 := (g4.cell0 hlt).trans e4
      have e5 := (g4.cell0 hlt).trans e5
      obtain ⟨x, hxe⟩ : ∃ x, acts k = x := ⟨_, rfl⟩
      rw [hxe] at HA e0 e1 e2 e3 e4 e5
      clear hx hxe
      obtain ⟨xd, xz, xk, xv, xs, xao, xkl, xkc, xkp⟩ := x
      dsimp only at e0 e1 e2 e3 e4 e5
      have hd : decide ((k : Int) < (M : Int)) = true := by simpa using hkM
      have hk0 : (0 : Int) ≤ (k : Int) := by omega
      have hkb : (k : Int) < (M : Int) := by omega
      obtain ⟨m8, hm8⟩ : ∃ m, m = min xs.size 80 := ⟨_, rfl⟩
      have hmn := minIsR Try.prog xs.size m8 80 80 rfl hm8
      have hm8a : m8 ≤ xs.size := by omega
      have hxsz : xs.size ≤ 9223372036854775807 := by have := HA.out.2.2.2.2.1; unfold maxLen at this; omega
      have HM8 := Lib.hid (show m8 ≤ 80 by omega)
      have hmx := max0 Try.prog
      have hmr := max0r Try.prog
      have hd0 := mx_nonneg xd
      have hs : mx xd % 7 = 0 ∨ mx xd % 7 = 1 ∨ mx xd % 7 = 2 ∨ mx xd % 7 = 3 ∨ mx xd % 7 = 4 ∨ mx xd % 7 = 5 ∨ mx xd % 7 = 6 := by omega
      have X := Holds.new wr #[Value.int .i64 xd, .int .i64 xz, .int .i64 xk, .int .u64 (xv : Int), .string xs, .slice xao xkl xkc] 61
      have g5 : Gr [] wr (wr.alloc (.cells #[Value.int .i64 xd, .int .i64 xz, .int .i64 xk, .int .u64 (xv : Int), .string xs, .slice xao xkl xkc] 61)) := (Gr.refl [] wr).alloc _
      have HXL := Lib.hid X.lt
      have HLT := Lib.hid (show wr.heap.size ∉ a.all ∧ wr.heap.size ∉ r.all from ⟨fun e => by have := d4.lt _ e; omega, fun e => by have := r4.lt _ e; omega⟩)
      have HDV := Lib.hid (show ∀ W, Gr [] (wr.alloc (.cells #[Value.int .i64 xd, .int .i64 xz, .int .i64 xk, .int .u64 (xv : Int), .string xs, .slice xao xkl xkc] 61)) W → DevIs W a D ∧ RefIs W r D ∧ Gr [] w W from fun W g => ⟨(d4.gr0 g5).gr0 g, (r4.gr0 g5).gr0 g, (g4.trans g5).trans g⟩)
      have HFU := Lib.hid (show Fu D (10 * k) from ⟨b4, d4.ok.fu⟩)
      have HOK := Lib.hid d4.ok
      have HN4 := Lib.hid n4
      have HNN := Lib.hid (show ∀ (wa wb : World), Gr [] w wa → Gr a.all wa wb → Gr [] w wb from fun wa wb p q => p.nextN q fun x hx => .inr (HLO.out x hx))
      have HNR := Lib.hid (show ∀ (wa wb : World), Gr [] w wa → Gr r.all wa wb → Gr [] w wb from fun wa wb p q => p.nextN q fun x hx => .inr (HRO.out x hx))
      have HKP := Lib.hid (show ∀ j, j < xkl → ∃ b o, xao = some ⟨b, o, none⟩ ∧ b ∉ a.all ∧ ∀ W, Gr [] w W → b < W.heap.size ∧ W.cell? ⟨b, o + j, none⟩ = some (.bool (xkp j)) from fun j hj => by
        obtain ⟨b', o', q1, q2, q3⟩ := HA.out.2.2.2.2.2.1 j hj
        exact ⟨b', o', q1, (fun e => by have := HLO.out _ e; omega), fun W g => ⟨Nat.lt_of_lt_of_le q2 g.size, (g.cell0 q2).trans q3⟩⟩)
      have k0 : (wr.alloc (.cells #[Value.int .i64 xd, .int .i64 xz, .int .i64 xk, .int .u64 (xv : Int), .string xs, .slice xao xkl xkc] 61)).cell? ⟨wr.heap.size, 0, none⟩ = some (.int .i64 xd) := X.cell 0
      have k1 : (wr.alloc (.cells #[Value.int .i64 xd, .int .i64 xz, .int .i64 xk, .int .u64 (xv : Int), .string xs, .slice xao xkl xkc] 61)).cell? ⟨wr.heap.size, 1, none⟩ = some (.int .i64 xz) := X.cell 1
      have k2 : (wr.alloc (.cells #[Value.int .i64 xd, .int .i64 xz, .int .i64 xk, .int .u64 (xv : Int), .string xs, .slice xao xkl xkc] 61)).cell? ⟨wr.heap.size, 2, none⟩ = some (.int .i64 xk) := X.cell 2
      have k3 : (wr.alloc (.cells #[Value.int .i64 xd, .int .i64 xz, .int .i64 xk, .int .u64 (xv : Int), .string xs, .slice xao xkl xkc] 61)).cell? ⟨wr.heap.size, 3, none⟩ = some (.int .u64 (xv : Int)) := X.cell 3
      have k4 : (wr.alloc (.cells #[Value.int .i64 xd, .int .i64 xz, .int .i64 xk, .int .u64 (xv : Int), .string xs, .slice xao xkl xkc] 61)).cell? ⟨wr.heap.size, 4, none⟩ = some (.string xs) := X.cell 4
      have k5 : (wr.alloc (.cells #[Value.int .i64 xd, .int .i64 xz, .int .i64 xk, .int .u64 (xv : Int), .string xs, .slice xao xkl xkc] 61)).cell? ⟨wr.heap.size, 5, none⟩ = some (.slice xao xkl xkc) := X.cell 5
      clear X d4 r4 n4 b4 g4 g5 hm8
      go_upto_block 2 with fail
      clear e0 e1 e2 e3 e4 e5 hmn k4
      generalize wr.alloc (.cells #[Value.int .i64 xd, .int .i64 xz, .int .i64 xk, .int .u64 (xv : Int), .string xs, .slice xao xkl xkc] 61) = wa at *
      generalize wr.heap.size = b7 at *
      obtain ⟨S, hS⟩ : ∃ S, xs.extract 0 m8 = S := ⟨_, rfl⟩
      have HSZ := Lib.hid (show S.size ≤ 80 by rw [← hS, ByteArray.size_extract]; have := HM8.out; omega)
      try rw [hS]
      clear hS
      have HFL := Lib.hid (fun W => full_any S W (by have := HSZ.out; omega))
      have HML := Lib.hid (show (80 : Nat) ≤ maxLen by unfold maxLen; omega)
      go_cut [9] (fun okv wz => okv = .bool true ∧ ∃ DZ, DevIs wz a DZ ∧ RefIs wz r DZ ∧ DZ.n = 3 ∧ Bd DZ (10 * (k + 1)) ∧ Gr [] w wz)
      case first =>
        rcases hs with hs | hs | hs | hs | hs | hs | hs
        · as_aux_lemma =>
            go_wp2_with fail
            clear hs hmx k0
            have gd : Gr [] wa wa.drew := (Gr.refl [] wa).drew
            have HKc := Lib.hid (show ∀ W W', (W.cell? ⟨b7, 1, none⟩ = some (.int .i64 xz) ∧ W.cell? ⟨b7, 2, none⟩ = some (.int .i64 xk) ∧ W.cell? ⟨b7, 3, none⟩ = some (.int .u64 (xv : Int))) → ∀ bs, Gr bs W W' → b7 ∉ bs → W'.cell? ⟨b7, 1, none⟩ = some (.int .i64 xz) ∧ W'.cell? ⟨b7, 2, none⟩ = some (.int .i64 xk) ∧ W'.cell? ⟨b7, 3, none⟩ = some (.int .u64 (xv : Int)) from fun W W' q bs g hn => by
              have hl := World.block_lt_of_cell? _ _ q.1
              exact ⟨(cell_gr g hl hn).trans q.1, (cell_gr g hl hn).trans q.2.1, (cell_gr g hl hn).trans q.2.2⟩)
            have s4 : wa.drew.cell? ⟨b7, 1, none⟩ = some (.int .i64 xz) ∧ wa.drew.cell? ⟨b7, 2, none⟩ = some (.int .i64 xk) ∧ wa.drew.cell? ⟨b7, 3, none⟩ = some (.int .u64 (xv : Int)) := ⟨k1, k2, k3⟩
            clear k5 hmr
            go_region_held3 (fun w' : World => w'.cell? ⟨b7, 1, none⟩ = some (.int .i64 xz) ∧ w'.cell? ⟨b7, 2, none⟩ = some (.int .i64 xk) ∧ w'.cell? ⟨b7, 3, none⟩ = some (.int .u64 (xv : Int))) (first | assumption | go_keep) ((first
              | (go_at_call 32; refine (HFL.out _).mono ?_; rintro e w5 ⟨rfl, g5⟩; have s4 := HKc.out _ _ s4 [] g5 (by simp); have H5 := Lib.hid g5; clear g5)
              | (go_at_call 31; refine (lput_any a D xz (fullS S) (10 * k) _ (HDV.out _ (gd.trans H5.out)).1 HFU.out.1 (by omega) (by rw [fullS_size]; have := HML.out; omega)).mono ?_; rintro e wp ⟨rfl, dp, bp, gp⟩; have s4 := HKc.out _ _ s4 _ gp HLT.out.1; have HP := Lib.hid (And.intro dp (And.intro bp (And.intro ((HDV.out _ (gd.trans H5.out)).2.1.gr gp (fun x hx e => HSEP.out x e hx)) (HNN.out _ _ (HDV.out _ (gd.trans H5.out)).2.2 gp)))); clear dp bp gp)
              | (go_at_call 33; refine (rput4_any r D xz (fullS S) (10 * k) _ (HP.out.2.2.1.gr0 H5.out) HFU.out (by omega) (by rw [fullS_size]; have := HML.out; omega)).mono ?_; rintro e w6 ⟨rfl, r6, g6⟩; have s4 := HKc.out _ _ s4 _ g6 HLT.out.2; have H6 := Lib.hid (And.intro ((HP.out.1.gr0 H5.out).gr g6 (fun x hx e => HSEP.out x hx e)) (And.intro r6 (And.intro ((putE_n D xz (fullS S)).trans HN4.out) (And.intro HP.out.2.1 (HNR.out _ _ (HP.out.2.2.2.trans H5.out) g6))))); clear r6 g6)))
            clear k1 k2 k3
            obtain ⟨DZ, hDZ⟩ : ∃ DZ, (putE D xz (fullS S)).2 = DZ := ⟨_, rfl⟩
            rw [hDZ] at H6
            have HZ := Lib.hid H6.out
            clear hDZ
            generalize w6 = wz at *
            go_wp2_with fail
            go_meet
            exact ⟨rfl, DZ, HZ.out⟩
        · as_aux_lemma =>
            go_wp2_with fail
            clear hs hmx k0
            have gd : Gr [] wa wa.drew := (Gr.refl [] wa).drew
            have HKc := Lib.hid (show ∀ W W', (W.cell? ⟨b7, 1, none⟩ = some (.int .i64 xz) ∧ W.cell? ⟨b7, 2, none⟩ = some (.int .i64 xk) ∧ W.cell? ⟨b7, 3, none⟩ = some (.int .u64 (xv : Int))) → ∀ bs, Gr bs W W' → b7 ∉ bs → W'.cell? ⟨b7, 1, none⟩ = some (.int .i64 xz) ∧ W'.cell? ⟨b7, 2, none⟩ = some (.int .i64 xk) ∧ W'.cell? ⟨b7, 3, none⟩ = some (.int .u64 (xv : Int)) from fun W W' q bs g hn => by
              have hl := World.block_lt_of_cell? _ _ q.1
              exact ⟨(cell_gr g hl hn).trans q.1, (cell_gr g hl hn).trans q.2.1, (cell_gr g hl hn).trans q.2.2⟩)
            have s4 : wa.drew.cell? ⟨b7, 1, none⟩ = some (.int .i64 xz) ∧ wa.drew.cell? ⟨b7, 2, none⟩ = some (.int .i64 xk) ∧ wa.drew.cell? ⟨b7, 3, none⟩ = some (.int .u64 (xv : Int)) := ⟨k1, k2, k3⟩
            clear k5 hmr
            go_region_held3 (fun w' : World => w'.cell? ⟨b7, 1, none⟩ = some (.int .i64 xz) ∧ w'.cell? ⟨b7, 2, none⟩ = some (.int .i64 xk) ∧ w'.cell? ⟨b7, 3, none⟩ = some (.int .u64 (xv : Int))) (first | assumption | go_keep) ((first
              | (go_at_call 31; refine (lput_any a D xz S (10 * k) _ (HDV.out _ gd).1 HFU.out.1 (by omega) (by have := HSZ.out; have := HML.out; omega)).mono ?_; rintro e wp ⟨rfl, dp, bp, gp⟩; have s4 := HKc.out _ _ s4 _ gp HLT.out.1; have HP := Lib.hid (And.intro dp (And.intro bp (And.intro ((HDV.out _ gd).2.1.gr gp (fun x hx e => HSEP.out x e hx)) (HNN.out _ _ (HDV.out _ gd).2.2 gp)))); clear dp bp gp)
              | (go_at_call 33; refine (rput4_any r D xz S (10 * k) _ HP.out.2.2.1 HFU.out (by omega) (by have := HSZ.out; have := HML.out; omega)).mono ?_; rintro e w6 ⟨rfl, r6, g6⟩; have s4 := HKc.out _ _ s4 _ g6 HLT.out.2; have H6 := Lib.hid (And.intro (HP.out.1.gr g6 (fun x hx e => HSEP.out x hx e)) (And.intro r6 (And.intro ((putE_n D xz S).trans HN4.out) (And.intro HP.out.2.1 (HNR.out _ _ HP.out.2.2.2 g6))))); clear r6 g6)))
            clear k1 k2 k3
            obtain ⟨DZ, hDZ⟩ : ∃ DZ, (putE D xz S).2 = DZ := ⟨_, rfl⟩
            rw [hDZ] at H6
            have HZ := Lib.hid H6.out
            clear hDZ
            generalize w6 = wz at *
            go_wp2_with fail
            go_meet
            exact ⟨rfl, DZ, HZ.out⟩
        · as_aux_lemma =>
            go_wp2_with fail
            clear hs hmx k0
            have gd : Gr [] wa wa.drew := (Gr.refl [] wa).drew
            have HKc := Lib.hid (show ∀ W W', (W.cell? ⟨b7, 1, none⟩ = some (.int .i64 xz) ∧ W.cell? ⟨b7, 2, none⟩ = some (.int .i64 xk) ∧ W.cell? ⟨b7, 3, none⟩ = some (.int .u64 (xv : Int))) → ∀ bs, Gr bs W W' → b7 ∉ bs → W'.cell? ⟨b7, 1, none⟩ = some (.int .i64 xz) ∧ W'.cell? ⟨b7, 2, none⟩ = some (.int .i64 xk) ∧ W'.cell? ⟨b7, 3, none⟩ = some (.int .u64 (xv : Int)) from fun W W' q bs g hn => by
              have hl := World.block_lt_of_cell? _ _ q.1
              exact ⟨(cell_gr g hl hn).trans q.1, (cell_gr g hl hn).trans q.2.1, (cell_gr g hl hn).trans q.2.2⟩)
            have s4 : wa.drew.cell? ⟨b7, 1, none⟩ = some (.int .i64 xz) ∧ wa.drew.cell? ⟨b7, 2, none⟩ = some (.int .i64 xk) ∧ wa.drew.cell? ⟨b7, 3, none⟩ = some (.int .u64 (xv : Int)) := ⟨k1, k2, k3⟩
            clear k5 hmr
            go_region_held3 (fun w' : World => w'.cell? ⟨b7, 1, none⟩ = some (.int .i64 xz) ∧ w'.cell? ⟨b7, 2, none⟩ = some (.int .i64 xk) ∧ w'.cell? ⟨b7, 3, none⟩ = some (.int .u64 (xv : Int))) (first | assumption | go_keep) ((first
              | (go_at_call 34; refine (putword_any a D xz xk xv (10 * k) _ (HDV.out _ gd).1 HFU.out.1 (by omega) HA.out.2.2.2.1).mono ?_; rintro e wp ⟨rfl, dp, bp, gp⟩; have s4 := HKc.out _ _ s4 _ gp HLT.out.1; have HP := Lib.hid (And.intro dp (And.intro bp (And.intro ((HDV.out _ gd).2.1.gr gp (fun x hx e => HSEP.out x e hx)) (HNN.out _ _ (HDV.out _ gd).2.2 gp)))); clear dp bp gp)
              | (go_at_call 35; refine (rputword_any r D xz xk xv (10 * k) _ HP.out.2.2.1 HFU.out (by omega)).mono ?_; rintro e w6 ⟨rfl, r6, g6⟩; have s4 := HKc.out _ _ s4 _ g6 HLT.out.2; have H6 := Lib.hid (And.intro (HP.out.1.gr g6 (fun x hx e => HSEP.out x hx e)) (And.intro r6 (And.intro ((pwE_n D xz xk xv).trans HN4.out) (And.intro HP.out.2.1 (HNR.out _ _ HP.out.2.2.2 g6))))); clear r6 g6)))
            clear k1 k2 k3
            obtain ⟨DZ, hDZ⟩ : ∃ DZ, (pwE D xz xk xv).2 = DZ := ⟨_, rfl⟩
            rw [hDZ] at H6
            have HZ := Lib.hid H6.out
            clear hDZ
            generalize w6 = wz at *
            go_wp2_with fail
            go_meet
            exact ⟨rfl, DZ, HZ.out⟩
        · as_aux_lemma =>
            go_wp2_with fail
            clear hs hmx k0
            clear k2 k3 k5 hmr
            by_cases he : reachE D (isLine D xz) = 0
            · have ht := reach_there he
              have hz : 0 ≤ xz ∧ xz < D.n := by have := ht.1; unfold isLine at this; exact of_decide_eq_true this
              obtain ⟨l, rfl⟩ := Int.eq_ofNat_of_zero_le hz.1
              have HG1 := Lib.hid (get_yes a D l wa (HDV.out _ (Gr.refl [] wa)).1 (by omega) ht.2)
              have HG2 := Lib.hid (fun W (g : Gr [] wa W) => rget4_yes r D l W (HDV.out _ g).2.1 (by omega) ht.2 (loadV_lt HOK.out))
              have HKc := Lib.hid (show ∀ W, Gr [] wa W → W.cell? ⟨b7, 1, none⟩ = some (.int .i64 (l : Int)) from fun W g => (g.cell0 HXL.out).trans k1)
              clear he ht hz
              generalize (⟨(getT D l).toArray⟩ : ByteArray) = GT at *
              go_wp2_with fail
              refine HG1.out.mono ?_
              rintro e w5 ⟨rfl, q5⟩
              have k1 := HKc.out _ q5
              have HQ5 := Lib.hid q5
              clear q5
              go_wp2_with fail
              refine (HG2.out _ HQ5.out).mono ?_
              rintro e wz ⟨rfl, q6⟩
              have H6 := Lib.hid (HDV.out _ (HQ5.out.trans q6))
              clear q6 k1
              have HZ := Lib.hid (show DevIs wz a D ∧ RefIs wz r D ∧ D.n = 3 ∧ Bd D (10 * (k + 1)) ∧ Gr [] w wz from ⟨H6.out.1, H6.out.2.1, HN4.out, HFU.out.1.mono (by omega), H6.out.2.2⟩)
              obtain ⟨DZ, hDZ⟩ : ∃ DZ, D = DZ := ⟨_, rfl⟩
              rw [hDZ] at HZ
              clear hDZ
              go_wp2_with fail
              go_meet
              exact ⟨rfl, DZ, HZ.out⟩
            · have HG1 := Lib.hid (get_err a D xz wa (HDV.out _ (Gr.refl [] wa)).1 he)
              have HG2 := Lib.hid (rget4_err r D xz wa (HDV.out _ (Gr.refl [] wa)).2.1 he)
              clear he
              generalize reachE D (isLine D xz) = ev at *
              go_wp2_with fail
              refine HG1.out.mono ?_
              rintro e w' ⟨rfl, rfl⟩
              go_wp2_with fail
              refine HG2.out.mono ?_
              rintro e wz ⟨rfl, q6⟩
              have H6 := Lib.hid (HDV.out _ q6)
              clear q6 k1
              have HZ := Lib.hid (show DevIs wz a D ∧ RefIs wz r D ∧ D.n = 3 ∧ Bd D (10 * (k + 1)) ∧ Gr [] w wz from ⟨H6.out.1, H6.out.2.1, HN4.out, HFU.out.1.mono (by omega), H6.out.2.2⟩)
              obtain ⟨DZ, hDZ⟩ : ∃ DZ, D = DZ := ⟨_, rfl⟩
              rw [hDZ] at HZ
              clear hDZ
              go_wp2_with fail
              go_meet
              exact ⟨rfl, DZ, HZ.out⟩
        · as_aux_lemma =>
            by_cases hin : 0 ≤ xz ∧ xz < 3
            · obtain ⟨i4, rfl⟩ := Int.eq_ofNat_of_zero_le hin.1
              go_wp2_with fail
              clear hs hmx k0
              clear k2 k3 k5 hmr
              have hi4 : i4 < 3 := by omega
              have HI := Lib.hid (show i4 < D.n by rw [HN4.out]; exact hi4)
              refine (break_in a D i4 _ (HDV.out _ (Gr.refl [] wa)).1 HI.out).mono ?_
              rintro e w5 ⟨rfl, d5, g5⟩
              have g5 := g5.mono (cs := a.all) (fun b hb => by simp at hb; subst hb; simp [DevA.all])
              have s1 : w5.cell? ⟨b7, 1, none⟩ = some (.int .i64 (i4 : Int)) := (cell_gr g5 HXL.out HLT.out.1).trans k1
              obtain ⟨R, hR, hS⟩ := (HDV.out _ (Gr.refl [] wa)).2.1.gr g5 (fun x hx e => HSEP.out x e hx)
              have H5 := Lib.hid (And.intro d5 (HNN.out _ _ (HDV.out _ (Gr.refl [] wa)).2.2 g5))
              have hn3 : R.n = 3 := by rw [hS.n]; exact HN4.out
              have r2 := hR.c2
              rw [hn3] at r2
              have hib : (i4 : Int) < 3 := by omega
              have hi0 : (0 : Int) ≤ (i4 : Int) := by omega
              have rb := hR.badAt (i := i4) (by rw [hn3]; exact hi4)
              have fb : w5.frozen? ⟨r.rb, i4, none⟩ = false := hR.bad.frozen i4
              have HRS := Lib.hid (And.intro hR hS)
              have hd1 : decide ((0 : Int) ≤ (i4 : Int)) = true := by simp
              have hd2 : decide ((i4 : Int) < (3 : Int)) = true := by simpa using hib
              clear d5 g5 hR hS k1 hi4 hn3
              generalize R.bad i4 = xb at *
              go_wp2_with fail
              go_still_tail 7, (by kernel_rfl)
              go_wp2_with fail
              have H6 := Lib.hid (show DevIs (w5.setCell ⟨r.rb, i4, none⟩ (.bool true)).drew a { D with bad := fun j => if j = i4 then true else D.bad j } ∧ RefIs (w5.setCell ⟨r.rb, i4, none⟩ (.bool true)).drew r { D with bad := fun j => if j = i4 then true else D.bad j } ∧ D.n = 3 ∧ Bd D (10 * (k + 1)) ∧ Gr [] w (w5.setCell ⟨r.rb, i4, none⟩ (.bool true)).drew from by
                have g6 : Gr r.all w5 (w5.setCell ⟨r.rb, i4, none⟩ (.bool true)).drew := ((grSet w5 r.rb i4 (.bool true)).mono (cs := r.all) (fun b hb => by simp at hb; subst hb; simp [RefA.all])).drew
                have hS := HRS.out.2
                exact ⟨H5.out.1.gr g6 (fun x hx e => HSEP.out x hx e), ⟨_, (HRS.out.1.setBad i4 true).gr0 ((Gr.refl [] _).drew), ⟨hS.n, hS.wear, (fun l hl => by show (if l = i4 then true else R.bad l) = (if l = i4 then true else D.bad l); rw [hS.bad l hl]), hS.fuse, hS.off, hS.cnt, hS.med, hS.buf⟩⟩, HN4.out, HFU.out.1.mono (by omega), HNR.out _ _ H5.out.2 g6⟩)
              clear s1 r2 rb fb
              generalize (w5.setCell ⟨r.rb, i4, none⟩ (.bool true)).drew = wz at *
              obtain ⟨DZ, hDZ⟩ : ∃ DZ : DevS, { D with bad := fun j => if j = i4 then true else D.bad j } = DZ := ⟨_, rfl⟩
              have HZ := Lib.hid (show DevIs wz a DZ ∧ RefIs wz r DZ ∧ DZ.n = 3 ∧ Bd DZ (10 * (k + 1)) ∧ Gr [] w wz by rw [← hDZ]; exact H6.out)
              clear hDZ
              go_wp2_with fail
              go_meet
              exact ⟨rfl, DZ, HZ.out⟩
            · have HIN := Lib.hid hin
              have hds : decide ((0 : Int) ≤ xz) = false ∨ (decide ((0 : Int) ≤ xz) = true ∧ decide (xz < (3 : Int)) = false) := by
                by_cases h0 : 0 ≤ xz
                · exact .inr ⟨by simpa using h0, by simp; omega⟩
                · exact .inl (by simpa using h0)
              clear hin
              rcases hds with hd1 | ⟨hd1, hd2⟩
              all_goals
                go_wp2_with fail
                clear hs hmx k0
                clear k2 k3 k5 hmr
                refine (break_out a D xz _ (HDV.out _ (Gr.refl [] wa)).1 (by rw [HN4.out]; exact HIN.out)).mono ?_
                rintro e wz ⟨rfl, rfl⟩
                have H6 := Lib.hid (HDV.out _ (Gr.refl [] wa))
                go_wp2_with fail
                clear k1
                generalize wa = wz at *
                have HZ := Lib.hid (show DevIs wz a D ∧ RefIs wz r D ∧ D.n = 3 ∧ Bd D (10 * (k + 1)) ∧ Gr [] w wz from ⟨H6.out.1, H6.out.2.1, HN4.out, HFU.out.1.mono (by omega), H6.out.2.2⟩)
                obtain ⟨DZ, hDZ⟩ : ∃ DZ, D = DZ := ⟨_, rfl⟩
                rw [hDZ] at HZ
                clear hDZ
                go_wp2_with fail
                go_meet
                exact ⟨rfl, DZ, HZ.out⟩
        · as_aux_lemma =>
            go_wp2_with fail
            clear hs hmx k0
            clear k1 k3 k5
            refine (fuse_any a D xk HA.out.2.2.1.2 _ (HDV.out _ (Gr.refl [] wa)).1).mono ?_
            rintro e w5 ⟨rfl, d5, g5⟩
            have g5 := g5.mono (cs := a.all) (fun b hb => by simp at hb; subst hb; simp [DevA.all])
            have s1 : w5.cell? ⟨b7, 2, none⟩ = some (.int .i64 xk) := (cell_gr g5 HXL.out HLT.out.1).trans k2
            obtain ⟨R, hR, hS⟩ := (HDV.out _ (Gr.refl [] wa)).2.1.gr g5 (fun x hx e => HSEP.out x e hx)
            have H5 := Lib.hid (And.intro d5 (HNN.out _ _ (HDV.out _ (Gr.refl [] wa)).2.2 g5))
            have r3 := hR.c3
            have f3 := hR.fr 3
            have HRS := Lib.hid (And.intro hR hS)
            clear d5 g5 hR hS k2
            generalize R.fuse = xf at *
            go_wp2_with fail
            have H6 := Lib.hid (show DevIs (w5.setCell ⟨r.rd, 3, none⟩ (.int .i64 (mx xk))) a { D with fuse := mx xk } ∧ RefIs (w5.setCell ⟨r.rd, 3, none⟩ (.int .i64 (mx xk))) r { D with fuse := mx xk } ∧ D.n = 3 ∧ Bd D (10 * (k + 1)) ∧ Gr [] w (w5.setCell ⟨r.rd, 3, none⟩ (.int .i64 (mx xk))) from by
              have g6 : Gr r.all w5 (w5.setCell ⟨r.rd, 3, none⟩ (.int .i64 (mx xk))) := (grSet w5 r.rd 3 (.int .i64 (mx xk))).mono (cs := r.all) (fun b hb => by simp at hb; subst hb; simp [RefA.all])
              have hS := HRS.out.2
              exact ⟨H5.out.1.gr g6 (fun x hx e => HSEP.out x hx e), ⟨_, HRS.out.1.setFuse (mx xk), ⟨hS.n, hS.wear, hS.bad, rfl, hS.off, hS.cnt, hS.med, hS.buf⟩⟩, HN4.out, HFU.out.1.mono (by omega), HNR.out _ _ H5.out.2 g6⟩)
            clear s1 r3 f3 hmr
            generalize w5.setCell ⟨r.rd, 3, none⟩ (.int .i64 (mx xk)) = wz at *
            obtain ⟨DZ, hDZ⟩ : ∃ DZ : DevS, { D with fuse := mx xk } = DZ := ⟨_, rfl⟩
            have HZ := Lib.hid (show DevIs wz a DZ ∧ RefIs wz r DZ ∧ DZ.n = 3 ∧ Bd DZ (10 * (k + 1)) ∧ Gr [] w wz by rw [← hDZ]; exact H6.out)
            clear hDZ
            go_wp2_with fail
            go_meet
            exact ⟨rfl, DZ, HZ.out⟩
        · as_aux_lemma =>
            have HSS := Lib.hid hs
            have HKN := Lib.hid HA.out.2.2.2.2.2.2.2.2
            have HKL := Lib.hid (And.intro HA.out.2.2.2.2.2.2.1 HA.out.2.2.2.2.2.2.2.1)
            have hkl1 : xkl ≤ xkc := HKL.out.1
            have hkl2 : xkc ≤ 9223372036854775807 := by have := HKL.out.2; unfold maxLen at this; simp only at this; omega
            cases xao with
            | none =>
              obtain rfl : xkc = 0 := HKN.out rfl
              obtain rfl : xkl = 0 := by omega
              have hmk := minIsR Try.prog 0 0 30 30 rfl rfl
              go_wp2_with fail
              clear hmk hs hmx hmr k0 k1 k2 k3 k5
              have HKI := Lib.hid (show ∀ W W', Gr [] wa W → Gr a.all W W' → KeepIs W' (.slice none 0 0) 0 (fun _ => false) from fun W W' g g' => ⟨none, 0, rfl, (fun j hj => by omega), (fun _ _ => rfl), Nat.zero_le _⟩)
              refine (boot_any a D (.slice none 0 0) 0 (fun _ => false) _ (HDV.out _ (Gr.refl [] wa)).1 (HKI.out _ _ (Gr.refl [] wa) (Gr.refl _ _)) (fun l => by have := HFU.out.1.2 l; omega) (by have := HFU.out.1.1; omega)).mono ?_
              rintro e w5 ⟨rfl, ⟨LB, hLB, d5⟩, g5⟩
              have HLB := Lib.hid (ref_boot (.slice none 0 0) 0 (fun _ => false) LB ((HDV.out _ (Gr.refl [] wa)).2.1.gr g5 (fun x hx e => HSEP.out x e hx)) (HKI.out _ _ (Gr.refl [] wa) g5) (fun l => by have := HFU.out.1.2 l; omega) HOK.out.sup hLB)
              have H5 := Lib.hid (And.intro d5 (HNN.out _ _ (HDV.out _ (Gr.refl [] wa)).2.2 g5))
              clear d5 g5 hLB
              go_wp2_with fail
              refine HLB.out.mono ?_
              rintro e wz ⟨rfl, r6, g6⟩
              obtain ⟨DZ, hDZ⟩ : ∃ DZ, bootD D LB (fun _ => false) = DZ := ⟨_, rfl⟩
              have HZ := Lib.hid (show DevIs wz a DZ ∧ RefIs wz r DZ ∧ DZ.n = 3 ∧ Bd DZ (10 * (k + 1)) ∧ Gr [] w wz from by
                rw [← hDZ]
                exact ⟨H5.out.1.gr g6 (fun x hx e => HSEP.out x hx e), r6, HN4.out, Bd.mono (Bnd.boot (c := 10 * k) HFU.out.1 LB _) (by omega), HNR.out _ _ H5.out.2 g6⟩)
              clear r6 g6 hDZ HLB
              go_wp2_with fail
              rw [show (6 : Int) = mx xd % 7 from HSS.out.symm]
              go_meet
              exact ⟨rfl, DZ, HZ.out⟩
            | some ad =>
              by_cases h0 : xkl = 0
              · subst h0
                have hmk := minIsR Try.prog 0 0 30 30 rfl rfl
                go_wp2_with fail
                clear hmk hs hmx hmr k0 k1 k2 k3 k5
                have HKI := Lib.hid (show ∀ W W', Gr [] wa W → Gr a.all W W' → KeepIs W' (.slice (some ad) 0 xkc) 0 (fun _ => false) from fun W W' g g' => ⟨some ad, xkc, rfl, (fun j hj => by omega), (fun _ _ => rfl), Nat.zero_le _⟩)
                refine (boot_any a D (.slice (some ad) 0 xkc) 0 (fun _ => false) _ (HDV.out _ (Gr.refl [] wa)).1 (HKI.out _ _ (Gr.refl [] wa) (Gr.refl _ _)) (fun l => by have := HFU.out.1.2 l; omega) (by have := HFU.out.1.1; omega)).mono ?_
                rintro e w5 ⟨rfl, ⟨LB, hLB, d5⟩, g5⟩
                have HLB := Lib.hid (ref_boot (.slice (some ad) 0 xkc) 0 (fun _ => false) LB ((HDV.out _ (Gr.refl [] wa)).2.1.gr g5 (fun x hx e => HSEP.out x e hx)) (HKI.out _ _ (Gr.refl [] wa) g5) (fun l => by have := HFU.out.1.2 l; omega) HOK.out.sup hLB)
                have H5 := Lib.hid (And.intro d5 (HNN.out _ _ (HDV.out _ (Gr.refl [] wa)).2.2 g5))
                clear d5 g5 hLB
                go_wp2_with fail
                refine HLB.out.mono ?_
                rintro e wz ⟨rfl, r6, g6⟩
                obtain ⟨DZ, hDZ⟩ : ∃ DZ, bootD D LB (fun _ => false) = DZ := ⟨_, rfl⟩
                have HZ := Lib.hid (show DevIs wz a DZ ∧ RefIs wz r DZ ∧ DZ.n = 3 ∧ Bd DZ (10 * (k + 1)) ∧ Gr [] w wz from by
                  rw [← hDZ]
                  exact ⟨H5.out.1.gr g6 (fun x hx e => HSEP.out x hx e), r6, HN4.out, Bd.mono (Bnd.boot (c := 10 * k) HFU.out.1 LB _) (by omega), HNR.out _ _ H5.out.2 g6⟩)
                clear r6 g6 hDZ HLB
                go_wp2_with fail
                rw [show (6 : Int) = mx xd % 7 from HSS.out.symm]
                go_meet
                exact ⟨rfl, DZ, HZ.out⟩
              · obtain ⟨bk, ok, hbo, _⟩ := HKP.out 0 (by omega)
                obtain rfl := Option.some.inj hbo
                obtain ⟨mk, hmk0⟩ : ∃ m, m = min xkl 30 := ⟨_, rfl⟩
                have hmk := minIsR Try.prog xkl mk 30 30 rfl hmk0
                have hm1 : mk ≤ xkl := by omega
                have hm2 : mk ≤ 30 := by omega
                clear hmk0 hbo h0
                go_wp2_with fail
                clear hmk hs hmx hmr k0 k1 k2 k3 k5
                have HKI := Lib.hid (show ∀ W W', Gr [] wa W → Gr a.all W W' → KeepIs W' (.slice (some ⟨bk, ok, none⟩) mk xkc) mk (fun j => if j < mk then xkp j else false) from fun W W' g g' => ⟨some ⟨bk, ok, none⟩, xkc, rfl, (fun j hj => by
                  obtain ⟨b', o', e, hb1, hb2⟩ := HKP.out j (by omega)
                  obtain ⟨rfl, rfl⟩ : bk = b' ∧ ok = o' := by cases e; exact ⟨rfl, rfl⟩
                  obtain ⟨hbW, hbc⟩ := hb2 W (HDV.out _ g).2.2
                  refine ⟨bk, ok, rfl, Nat.lt_of_lt_of_le hbW g'.size, ?_⟩
                  rw [cell_gr g' hbW hb1, hbc]
                  dsimp only
                  rw [if_pos hj]), (fun j hj => if_neg (by omega)), by unfold maxLen; omega⟩)
                refine (boot_any a D (.slice (some ⟨bk, ok, none⟩) mk xkc) mk (fun j => if j < mk then xkp j else false) _ (HDV.out _ (Gr.refl [] wa)).1 (HKI.out _ _ (Gr.refl [] wa) (Gr.refl _ _)) (fun l => by have := HFU.out.1.2 l; omega) (by have := HFU.out.1.1; omega)).mono ?_
                rintro e w5 ⟨rfl, ⟨LB, hLB, d5⟩, g5⟩
                have HLB := Lib.hid (ref_boot (.slice (some ⟨bk, ok, none⟩) mk xkc) mk (fun j => if j < mk then xkp j else false) LB ((HDV.out _ (Gr.refl [] wa)).2.1.gr g5 (fun x hx e => HSEP.out x e hx)) (HKI.out _ _ (Gr.refl [] wa) g5) (fun l => by have := HFU.out.1.2 l; omega) HOK.out.sup hLB)
                have H5 := Lib.hid (And.intro d5 (HNN.out _ _ (HDV.out _ (Gr.refl [] wa)).2.2 g5))
                clear d5 g5 hLB
                go_wp2_with fail
                refine HLB.out.mono ?_
                rintro e wz ⟨rfl, r6, g6⟩
                obtain ⟨DZ, hDZ⟩ : ∃ DZ, bootD D LB (fun j => if j < mk then xkp j else false) = DZ := ⟨_, rfl⟩
                have HZ := Lib.hid (show DevIs wz a DZ ∧ RefIs wz r DZ ∧ DZ.n = 3 ∧ Bd DZ (10 * (k + 1)) ∧ Gr [] w wz from by
                  rw [← hDZ]
                  exact ⟨H5.out.1.gr g6 (fun x hx e => HSEP.out x hx e), r6, HN4.out, Bd.mono (Bnd.boot (c := 10 * k) HFU.out.1 LB _) (by omega), HNR.out _ _ H5.out.2 g6⟩)
                clear r6 g6 hDZ HLB
                go_wp2_with fail
                rw [show (6 : Int) = mx xd % 7 from HSS.out.symm]
                go_meet
                exact ⟨rfl, DZ, HZ.out⟩
      case rest =>
       as_aux_lemma =>
        obtain ⟨rfl, DZ, hzz⟩ := hcut
        have HZ := Lib.hid hzz
        clear hzz k0 k1 k2 k3 k5 hs hmx hmr
        obtain ⟨wz, hwz⟩ : ∃ wz, wz = wc := ⟨_, rfl⟩
        rw [← hwz] at HZ ⊢
        clear hwz
        have HOKZ := Lib.hid HZ.out.1.ok.medB
        have zc5 := HZ.out.2.1.c5
        obtain ⟨Y, hY⟩ : ∃ Y, DZ.cnt = Y := ⟨_, rfl⟩
        rw [hY] at zc5
        have HCT := Lib.hid (show ∀ n : Nat, Calls Try.prog 26 #[.pointer (some ⟨a.bd, 0, none⟩)] (wz.drewN n) fun e w' => e = .returned (.int .i64 (Y : Int)) ∧ w' = wz.drewN n from fun n => by
          have q := calls_flipR (count_any a DZ _ (HZ.out.1.gr0 ((Gr.refl [] wz).drewN n)))
          rw [hY] at q
          exact q)
        clear hY
        go_wp2_with fail
        go_quiet ((first
          | (go_at_call 26; exact Calls.quiet_of_same (HCT.out _))))
        clear zc5
        go_wp2_with fail
        go_loopw [183] (fun u wr => ∃ i : Nat, i ≤ 3 ∧ u = .int .i64 (i : Int) ∧ Gr [] wz wr) (fun u _ => 3 - (intOf u).toNat)
        case atStart => exact ⟨0, by omega, rfl, (Gr.refl [] wz).drewN _⟩
        case round =>
          obtain ⟨i, hi, rfl, gy⟩ := hrel
          by_cases hi3 : i < 3
          · have hdi : decide ((i : Int) < 3) = true := by simp; omega
            have hin : i < DZ.n := by rw [HZ.out.2.2.1]; exact hi3
            have HMd := Lib.hid (rmedia4_any r DZ i wr (HZ.out.2.1.gr0 gy) hin HOKZ.out)
            have HT1 := Lib.hid (fun W (g : Gr [] wr W) => took_any a DZ (i : Int) (medS DZ i) W ((HZ.out.1.gr0 gy).gr0 g) (by rw [medS_size]; have := HML.out; omega))
            rw [took_med HOKZ.out hin] at HT1
            have HT2 := Lib.hid (fun W (g : Gr [] wr W) => took_any a DZ (i : Int) (fullS S) W ((HZ.out.1.gr0 gy).gr0 g) (by rw [fullS_size]; have := HML.out; omega))
            rw [took_eq HOKZ.out hin (fullS_size S)] at HT2
            have HGY := Lib.hid gy
            clear gy hin
            rw [show (⟨(medT DZ i).toArray⟩ : ByteArray) = medS DZ i from rfl] at HMd
            generalize medS DZ i = MT at *
            generalize fullS S = FT at *
            obtain ⟨bq, hbq⟩ : ∃ bq, (MT.toList == FT.toList) = bq := ⟨_, rfl⟩
            rw [hbq] at HT2
            go_wp2_with fail
            refine HMd.out.mono ?_
            rintro e wy1 ⟨rfl, q1⟩
            have HQ1 := Lib.hid q1
            clear q1
            go_wp2_with fail
            refine (HT1.out _ HQ1.out).mono ?_
            rintro e wy2 ⟨rfl, q2⟩
            have HQ2 := Lib.hid (HQ1.out.trans q2)
            clear q2
            go_wp2_with fail
            refine (HFL.out _).mono ?_
            rintro e wy3 ⟨rfl, q3⟩
            have HQ3 := Lib.hid (HQ2.out.trans q3)
            clear q3
            go_wp2_with fail
            refine (HT2.out _ HQ3.out).mono ?_
            rintro e wy4 ⟨rfl, q4⟩
            have HQ4 := Lib.hid (HQ3.out.trans q4)
            clear q4
            go_wp2_with fail
            refine (HFL.out _).mono ?_
            rintro e wy5 ⟨rfl, q5⟩
            have HQ5 := Lib.hid (HQ4.out.trans q5)
            clear q5
            go_wp2_with fail
            go_roundw
            case rel => exact ⟨i + 1, by omega, by go_num, HGY.out.trans HQ5.out⟩
            case measure => simp [intOf]; omega
          · obtain rfl : i = 3 := by omega
            have HGY := Lib.hid gy
            clear gy
            rw [show ((3 : Nat) : Int) = 3 from rfl]
            go_wp2_with fail
            go_roundw
            case rel => exact ⟨k + 1, DZ, by omega, by go_num, HZ.out.1.gr0 HGY.out, HZ.out.2.1.gr0 HGY.out, HZ.out.2.2.1, HZ.out.2.2.2.1, HZ.out.2.2.2.2.trans HGY.out⟩
            case measure => simp [intOf]; omega
    · obtain rfl : k = M := by omega
      have hd : decide ((k : Int) < (k : Int)) = false := by simp
      have HD := Lib.hid g4
      clear d4 r4 n4 b4 g4
      go_wp2_with fail
      go_ret
      exact ⟨rfl, HD.out⟩

end Go.Proofs.Ytphaaebbofgdnaa

