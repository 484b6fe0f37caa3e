/-
  SkBm: HtQ, SqX, SqY.
-/
import Derived.Test.YtifekejcbhllpaaGreatSkBi
import Derived.Test.YtifekejcbhllpaaGreatSkBe
import Derived.Test.YtifekejcbhllpaaGreatSkBl

set_option linter.unusedVariables false

/-
  Layer 10: Make.
-/
namespace Go.Proofs.YtifekejcbhllpaaGreat
open Go.RowKit
set_option linter.unusedVariables false

/-- The list's words when n pages are entered. -/
def mkF (C : CfgZ) (n : Nat) : Nat → Nat → Nat := fun l k => if 8 * l + k < n then guardN (0 * 65536 + (tbC C + (8 * l + k))) else 0
/-- How often regions moved on, and were written since, when n pages are entered. -/
def mkJ (C : CfgZ) : Nat → (Nat → Nat) × (Nat → Nat)
  | 0 => (fun _ => 0, fun _ => 0)
  | n + 1 => (stJ10 C (qL C (n / 8)) (mkJ C n).1 (mkJ C n).2, stC10 C (qL C (n / 8)) (mkJ C n).2)
theorem mkF_tb {C : CfgZ} (hC : OkC C) (hp : 0 < pgC C) : TbO C (mkF C (pgC C)) (fun g => tbC C + g) (fun _ => 0) := by
  obtain ⟨n1, n2, n3, n4, n5, n6⟩ := pg_nums hC hp
  refine ⟨fun g hg => ⟨by omega, by omega⟩, fun g g2 h1 h2 e => by omega, fun g hg => ?_, fun _ _ => by omega⟩
  show (if 8 * (g / 8) + g % 8 < pgC C then guardN (0 * 65536 + (tbC C + (8 * (g / 8) + g % 8))) else 0) = _
  have e : 8 * (g / 8) + g % 8 = g := Nat.div_add_mod g 8
  rw [e, if_pos hg]
theorem mkF_zero {C : CfgZ} {l k : Nat} (hp : pgC C ≤ 64 * tbC C) (hl : 8 * tbC C ≤ l) : mkF C (pgC C) l k = 0 := if_neg (by omega)
theorem mkF_step {C : CfgZ} (n : Nat) {l k : Nat} (hk : k < 8) : (if l = n / 8 then updF (mkF C n (n / 8)) (n % 8) (guardN (0 * 65536 + (tbC C + n))) k else mkF C n l k) = mkF C (n + 1) l k := by
  have e : 8 * (n / 8) + n % 8 = n := Nat.div_add_mod n 8
  unfold mkF updF
  by_cases h1 : l = n / 8
  · rw [if_pos h1]
    by_cases h2 : k = n % 8
    · rw [if_pos h2, if_pos (by omega)]
      congr 3
      omega
    · rw [if_neg h2]
      subst h1
      show (if 8 * (n / 8) + k < n then guardN (0 * 65536 + (tbC C + (8 * (n / 8) + k))) else 0) = _
      by_cases h3 : 8 * (n / 8) + k < n
      · rw [if_pos h3, if_pos (by omega)]
      · rw [if_neg h3, if_neg (by omega)]
  · rw [if_neg h1]
    by_cases h3 : 8 * l + k < n
    · rw [if_pos h3, if_pos (by omega)]
    · rw [if_neg h3, if_neg (by omega)]
section
variable {w w' : World} {a : DevA} {C : CfgZ}
set_option maxRecDepth 100000 in
set_option maxHeartbeats 16000000 in
theorem hmake_new {n : Nat} (hC : OkC C) (hp : 0 < pgC C) (hn : sizeC C ≤ (n : Int)) (h : DevIs w a (newD n)) :
    Calls Tryz.prog 28 #[.pointer (some ⟨a.bd, 0, none⟩), cfgV C] w fun e w' => ∃ (V : FlV) (D : DevS) (B : Nat → BkS) (j : Nat → Nat), e = .returned (.int .i64 0) ∧ DevIs w' a D ∧ FlD C true (mkF C (pgC C)) V (200000 + 4200 * pgC C) D B j ∧ V.J = (mkJ C (pgC C)).1 ∧ Gr a.all w w' := by
  obtain ⟨n1, n2, n3, n4, n5, n6⟩ := pg_nums hC hp
  have HP := Lib.hid (And.intro hC (And.intro hp (And.intro n1 (And.intro n2 (And.intro n5 n3)))))
  have HPl := Lib.hid (fun W => plan_any C hC.wf.1 W)
  have HMk := Lib.hid (fun W (d : DevIs W a (newD n)) => show Calls Tryz.prog 54 #[.pointer (some ⟨a.bd, 0, none⟩), .agg #[.int .i64 C.r, .int .i64 C.l, .int .i64 C.s, .int .i64 C.psi, .int .u64 (C.key : Int)]] W _ from fl_new hC hn W a d)
  have HAL := Lib.hid h.lt
  obtain ⟨G, hG⟩ : ∃ G, G = pgC C := ⟨_, rfl⟩
  obtain ⟨T, hT⟩ : ∃ T, T = tbC C := ⟨_, rfl⟩
  have hG7 : G ≤ 2048 := by omega
  have hT7 : T ≤ 32 := by omega
  have HN := Lib.hid (And.intro hG hT)
  rw [← hG, ← hT] at HPl
  obtain ⟨fz, hfz⟩ : ∃ fz, fz = freeC C := ⟨_, rfl⟩
  rw [← hfz] at HPl
  have hG0 : ¬ G = 0 := by omega
  have hG0b : ((G : Int) == 0) = false := by simp; omega
  have g0 := (Gr.refl [] w).alloc (Obj.cells (cfgRow C) 64)
  have hh0 := Holds.new w (cfgRow C) 64
  have H1 := Lib.hid (And.intro (h.gr0 g0) (And.intro g0 hh0))
  unfold cfgV at HPl
  unfold cfgV
  unfold cfgRow at H1
  clear h hC hp hn n1 n2 n3 n4 n5 n6 hG hT hfz g0 hh0
  go_enter Tryz.func28, Tryz.ntmps28
  go_upto_region 1 with fail
  generalize (w.alloc (Obj.cells #[.int .i64 C.r, .int .i64 C.l, .int .i64 C.s, .int .i64 C.psi, .int .u64 (C.key : Int)] 64)) = w1 at *
  obtain ⟨cb, hcb⟩ : ∃ b, w.heap.size = b := ⟨_, rfl⟩
  rw [hcb] at H1 ⊢
  have HCB := Lib.hid hcb
  clear hcb
  obtain ⟨c0, c1, c2, c3, c4⟩ := (show w1.cell? ⟨cb, 0, none⟩ = some (.int .i64 C.r) ∧ w1.cell? ⟨cb, 1, none⟩ = some (.int .i64 C.l) ∧ w1.cell? ⟨cb, 2, none⟩ = some (.int .i64 C.s) ∧ w1.cell? ⟨cb, 3, none⟩ = some (.int .i64 C.psi) ∧ w1.cell? ⟨cb, 4, none⟩ = some (.int .u64 (C.key : Int)) from ⟨H1.out.2.2.cell 0, H1.out.2.2.cell 1, H1.out.2.2.cell 2, H1.out.2.2.cell 3, H1.out.2.2.cell 4⟩)
  go_wp2_with fail
  refine (HPl.out _).mono ?_
  rintro e w2 ⟨rfl, g2⟩
  have ga := g2.alloc (Obj.cells #[.int .i64 (G : Int), .int .i64 (T : Int), .int .i64 fz] 99)
  have hy := Holds.new w2 #[.int .i64 (G : Int), .int .i64 (T : Int), .int .i64 fz] 99
  have H3 := Lib.hid (And.intro (H1.out.1.gr0 ga) (And.intro (H1.out.2.1.trans ga) (And.intro (H1.out.2.2.gr0 ga) hy)))
  have HYB := Lib.hid (H1.out.2.1.trans g2).size
  clear g2 ga hy HPl c0 c1 c2 c3 c4
  go_upto_region 4 with fail
  generalize w2.alloc (Obj.cells #[.int .i64 (G : Int), .int .i64 (T : Int), .int .i64 fz] 99) = w3 at *
  obtain ⟨yb, hyb⟩ : ∃ b, w2.heap.size = b := ⟨_, rfl⟩
  rw [hyb] at H3 HYB ⊢
  clear hyb
  obtain ⟨c0, c1, c2, c3, c4⟩ := (show w3.cell? ⟨cb, 0, none⟩ = some (.int .i64 C.r) ∧ w3.cell? ⟨cb, 1, none⟩ = some (.int .i64 C.l) ∧ w3.cell? ⟨cb, 2, none⟩ = some (.int .i64 C.s) ∧ w3.cell? ⟨cb, 3, none⟩ = some (.int .i64 C.psi) ∧ w3.cell? ⟨cb, 4, none⟩ = some (.int .u64 (C.key : Int)) from ⟨H3.out.2.2.1.cell 0, H3.out.2.2.1.cell 1, H3.out.2.2.1.cell 2, H3.out.2.2.1.cell 3, H3.out.2.2.1.cell 4⟩)
  have y0 := H3.out.2.2.2.cell 0
  go_wp2_with fail
  with_reducible refine (HMk.out _ H3.out.1).mono ?_
  rintro e w4 ⟨rfl, d4, f4, g4⟩
  have H4 := Lib.hid (And.intro d4 (And.intro f4 (And.intro ((H3.out.2.1.of0 (cs := a.all)).trans g4) (H3.out.2.2.2.gr g4 (fun e => by have h1 := HAL.out _ e; have h2 := HYB.out; omega)))))
  clear d4 f4 g4 y0 c0 c1 c2 c3 c4 HMk
  go_wp2_with fail
  refine (flc_open HP.out.1 H4.out.2.1 (by omega) H4.out.1).mono ?_
  rintro e w5 ⟨A, rfl, f5, n5, g5⟩
  have H5 := Lib.hid (And.intro f5 (And.intro (H4.out.2.2.2.gr0 g5) (And.intro (H4.out.2.2.1.next0 g5) (show ∀ x ∈ A.all (cR C), w.heap.size ≤ x from fun x hx => Nat.le_trans H4.out.2.2.1.size (n5 x hx)))))
  have HYA := Lib.hid (show yb ∉ A.all (cR C) ++ a.all ∧ w.heap.size ≤ yb from ⟨fun e => by
    rcases List.mem_append.1 e with e | e
    · have h1 := n5 _ e; have h2 := H4.out.2.2.2.lt; omega
    · have h1 := HAL.out _ e; have h2 := HYB.out; omega, HYB.out⟩)
  have y0 := H5.out.2.1.cell 0
  have y1 := H5.out.2.1.cell 1
  have y2 := H5.out.2.1.cell 2
  clear f5 n5 g5 H4
  go_upto_region 13 with fail
  have gp := (Gr.refl [] w5).alloc (Obj.cells #[.pointer (some ⟨A.fb, 0, none⟩), .int .i64 (G : Int), .int .i64 (T : Int), .int .i64 fz, .int .i64 0, .slice none 0 0, .slice none 0 0, .slice none 0 0] 103)
  have hp5 := Holds.new w5 #[.pointer (some ⟨A.fb, 0, none⟩), .int .i64 (G : Int), .int .i64 (T : Int), .int .i64 fz, .int .i64 0, .slice none 0 0, .slice none 0 0, .slice none 0 0] 103
  have H6 := Lib.hid (And.intro (H5.out.1.gr0 gp) (And.intro (H5.out.2.1.gr0 gp) (And.intro (H5.out.2.2.1.next0 gp) hp5)))
  have HPB := Lib.hid (show ∀ x ∈ A.all (cR C) ++ a.all, x < w5.heap.size from H5.out.1.fl.lt)
  clear y0 y1 y2 gp hp5
  have HV0 := Lib.hid (show (vOf C (fun _ => B0) (fun _ => 0) (iL C)).J = (mkJ C 0).1 from rfl)
  generalize vOf C (fun _ => B0) (fun _ => 0) (iL C) = V0 at *
  generalize w5.alloc (Obj.cells #[.pointer (some ⟨A.fb, 0, none⟩), .int .i64 (G : Int), .int .i64 (T : Int), .int .i64 fz, .int .i64 0, .slice none 0 0, .slice none 0 0, .slice none 0 0] 103) = w6 at *
  obtain ⟨pb, hpb⟩ : ∃ b, w5.heap.size = b := ⟨_, rfl⟩
  rw [hpb] at H6 HPB ⊢
  clear hpb
  have y0 := H6.out.2.1.cell 0
  go_wp2_with fail
  clear y0
  go_loopw [39] (fun iv wr => ∃ (n : Nat) (V : FlV), iv = .int .i64 (n : Int) ∧ n ≤ G ∧ Hid (FLc C A a true (mkF C n) V (mkJ C n).2 (200000 + 4200 * n) wr ∧ V.J = (mkJ C n).1 ∧ Holds wr pb #[.pointer (some ⟨A.fb, 0, none⟩), .int .i64 (G : Int), .int .i64 (T : Int), .int .i64 fz, .int .i64 0, .slice none 0 0, .slice none 0 0, .slice none 0 0] 103 ∧ Holds wr yb #[.int .i64 (G : Int), .int .i64 (T : Int), .int .i64 fz] 99 ∧ Gr a.all w wr)) (fun iv _ => G - (intOf iv).toNat)
  case atStart =>
    refine ⟨0, V0, rfl, by omega, Lib.hid ⟨?_, HV0.out, H6.out.2.2.2, H6.out.2.1, H6.out.2.2.1⟩⟩
    have e : mkF C 0 = fun _ _ => 0 := by
      funext l k
      exact if_neg (by omega)
    rw [e]
    exact H6.out.1
  case round =>
    clear H6
    obtain ⟨n, V, rfl, hn, HS⟩ := hrel
    by_cases hnG : n < G
    · as_aux_lemma =>
        have i1 : (n : Int) < (G : Int) := by omega
        have HI := Lib.hid hnG
        obtain ⟨t, ht⟩ : ∃ t, t = T + n := ⟨_, rfl⟩
        have wt : IntKind.i64.wrap ((T : Int) + (n : Int)) = (t : Int) := by rw [show (T : Int) + (n : Int) = (t : Int) by omega]; exact IntWalk.i64_in _ (by omega)
        have HEn := Lib.hid (henter_any (N := 200000 + 4200 * n) HS.out.1 (HS.out.2.2.1.cell 0) (by omega) n t 0 (by omega) (by have := HP.out; have := HN.out; omega) (by omega) (by omega))
        have y1 := HS.out.2.2.2.1.cell 1
        have HTT := Lib.hid ht
        clear ht
        go_wp2_with fail
        refine HEn.out.mono ?_
        rintro e w7 ⟨V7, rfl, e7, f7, g7⟩
        have hst : ∀ l k, l < cR C * cL C → k < 8 → (if l = n / 8 then updF (mkF C n (n / 8)) (n % 8) (guardN (0 * 65536 + t)) k else mkF C n l k) = mkF C (n + 1) l k := fun l k _ hk => by
          rw [HTT.out, HN.out.2]
          exact mkF_step n hk
        have H7 := Lib.hid (show FLc C A a true (mkF C (n + 1)) V7 (mkJ C (n + 1)).2 (200000 + 4200 * (n + 1)) w7 ∧ V7.J = (mkJ C (n + 1)).1 ∧ Holds w7 pb #[.pointer (some ⟨A.fb, 0, none⟩), .int .i64 (G : Int), .int .i64 (T : Int), .int .i64 fz, .int .i64 0, .slice none 0 0, .slice none 0 0, .slice none 0 0] 103 ∧ Holds w7 yb #[.int .i64 (G : Int), .int .i64 (T : Int), .int .i64 fz] 99 ∧ Gr a.all w w7 from
          ⟨(f7.congr hst).more (by omega), by rw [e7, HS.out.2.1]; rfl, HS.out.2.2.1.gr g7 (fun e => by have := HPB.out _ e; omega), HS.out.2.2.2.1.gr g7 HYA.out.1, HS.out.2.2.2.2.nextN g7 (fun x hx => by
            rcases List.mem_append.1 hx with e | e
            · exact .inr (H5.out.2.2.2 x e)
            · exact .inl e)⟩)
        clear e7 f7 g7 hst y1 wt HEn
        go_wp2_with fail
        go_roundw
        case rel => exact ⟨n + 1, V7, by go_num, HI.out, H7⟩
        case measure => simp [intOf]; omega
    · obtain rfl : n = G := by omega
      have ij : ¬ ((n : Int) < (n : Int)) := by omega
      clear hnG hn
      go_wp2_with fail
      go_ret
      obtain ⟨_, D, B, j, q1, q2, q3⟩ := HS.out.1
      have e := HN.out.1
      rw [← e]
      exact ⟨rfl, V, D, q3, ⟨B, j, q1⟩, HS.out.2.1, HS.out.2.2.2.2⟩
end
end Go.Proofs.YtifekejcbhllpaaGreat

/-
  Layer 11: the law's config, a fresh device's bytes, what the document fixes.
-/
namespace Go.Proofs.YtifekejcbhllpaaGreat
open Go.RowKit
set_option linter.unusedVariables false

def spC (key : Nat) : CfgZ := ⟨2, 24, 3, 2, key⟩
theorem spC_ok (key : Nat) (hk : key < 18446744073709551616) : OkC (spC key) ∧ pgC (spC key) = 3 ∧ 1 ≤ sizeC (spC key) ∧ sizeC (spC key) ≤ 8192 := by
  obtain ⟨C, hC⟩ : ∃ C, C = spC key := ⟨_, rfl⟩
  rw [← hC]
  have e1 : C.r = 2 := by rw [hC]; rfl
  have e2 : C.l = 24 := by rw [hC]; rfl
  have e3 : C.s = 3 := by rw [hC]; rfl
  have e4 : C.psi = 2 := by rw [hC]; rfl
  have e5 : C.key = key := by rw [hC]; rfl
  clear hC
  have ok : okP C := by unfold okP; omega
  obtain ⟨_, hs⟩ := regS_ok ok
  have hrs : 0 ≤ regS C ∧ regS C ≤ 200 := by rw [hs]; omega
  have hm : C.r * regS C ≤ 2 * 200 := Int.mul_le_mul (by omega) hrs.2 hrs.1 (by omega)
  have hm0 : 0 ≤ C.r * regS C := Int.mul_nonneg (by omega) hrs.1
  have hO : OkC C := ⟨by omega, by omega, ok, by omega, by omega⟩
  have hz := hO.size
  have hp : pgC C = pgN (restC C) (restC C) := by
    unfold pgC
    rw [if_neg (by omega)]
  have hr : restC C = 4 := by
    unfold restC
    rw [e2, e1]
    omega
  refine ⟨hO, ?_, by omega, by omega⟩
  rw [hp, hr]
  decide
set_option maxRecDepth 100000 in
set_option maxHeartbeats 4000000 in
theorem config11 (key : Nat) (w : World) : Calls Tryz.prog 25 #[.int .u64 (key : Int)] w fun e w' => e = .returned (cfgV (spC key)) ∧ Gr [] w w' := by
  have hb := Holds.new w #[.int .i64 0, .int .i64 0, .int .i64 0, .int .i64 0, .int .u64 0] 64
  have hg := (Gr.refl [] w).alloc (Obj.cells #[.int .i64 0, .int .i64 0, .int .i64 0, .int .i64 0, .int .u64 0] 64)
  have H := Lib.hid (And.intro hb hg)
  clear hb hg
  go_enter Tryz.func25, Tryz.ntmps25
  go_upto_region 1 with fail
  generalize w.alloc (Obj.cells #[.int .i64 0, .int .i64 0, .int .i64 0, .int .i64 0, .int .u64 0] 64) = w1 at *
  obtain ⟨b2, hb2⟩ : ∃ b, w.heap.size = b := ⟨_, rfl⟩
  have HW := Lib.hid (show w.heap.size ≤ b2 by omega)
  rw [hb2] at H ⊢
  clear hb2
  have d0 := H.out.1.cell 0
  have d1 := H.out.1.cell 1
  have d2 := H.out.1.cell 2
  have d3 := H.out.1.cell 3
  have d4 := H.out.1.cell 4
  have f0 := H.out.1.frozen 0
  have f1 := H.out.1.frozen 1
  have f2 := H.out.1.frozen 2
  have f3 := H.out.1.frozen 3
  have f4 := H.out.1.frozen 4
  have HF := Lib.hid (((((H.out.2.setCell (p := ⟨b2, 0, none⟩) (.inr HW.out) (.int .i64 2)).setCell (p := ⟨b2, 1, none⟩) (.inr HW.out) (.int .i64 24)).setCell (p := ⟨b2, 2, none⟩) (.inr HW.out) (.int .i64 3)).setCell (p := ⟨b2, 3, none⟩) (.inr HW.out) (.int .i64 2)).setCell (p := ⟨b2, 4, none⟩) (.inr HW.out) (.int .u64 (key : Int)))
  go_wp2_with fail
  exact bodyPost_ret (v := .agg #[.int .i64 2, .int .i64 24, .int .i64 3, .int .i64 2, .int .u64 (key : Int)]) (by simp [results, Tryz.results25, go_sem, *]) rfl ⟨rfl, HF.out⟩
theorem spnew_any (pb : Nat) (w : World) : Calls Tryz.prog 22 #[.pointer (some ⟨pb, 0, none⟩)] w fun e w' => ∃ sb, e = .returned (.tuple #[.pointer (some ⟨sb, 0, none⟩), .int .i64 0]) ∧ Holds w' sb #[.pointer (some ⟨pb, 0, none⟩)] 83 ∧ w.heap.size ≤ sb ∧ Gr [] w w' := by
  have hb := Holds.new w #[.pointer (some ⟨pb, 0, none⟩)] 83
  have hg := (Gr.refl [] w).alloc (Obj.cells #[.pointer (some ⟨pb, 0, none⟩)] 83)
  have H := Lib.hid (And.intro hb hg)
  clear hb hg
  go_enter Tryz.func22, Tryz.ntmps22
  go_wp2_with fail
  go_ret2
  exact ⟨_, rfl, H.out.1, Nat.le_refl _, H.out.2⟩
section
variable {w w' : World} {a : DevA} {C : CfgZ} {gd : Bool} {N : Nat} {Y : Nat → Nat → Nat → Nat} {B : ByteArray}
/-- Bytes are opened. -/
theorem open11 (hOp : Calls Tryz.prog 42 #[.pointer (some ⟨a.bd, 0, none⟩), .int .i64 3] w fun e w' => ∃ (X : HtA) (A : FlA), e = .returned (.tuple #[.pointer (some ⟨X.pb, 0, none⟩), .int .i64 0]) ∧ HLg C X A a gd true 3 Y N w' ∧ (∀ x ∈ X.all ++ A.all (cR C), w.heap.size ≤ x) ∧ Gr [] w w')
    (hs : B.size = 512 * pgC C) (pg : pgC C ≤ 2048) (hY : ∀ g k, g < pgC C → k < 8 → tY Y g k = lnQ B (8 * g + k)) :
    Calls Tryz.prog 17 #[.pointer (some ⟨a.bd, 0, none⟩)] w fun e w' => ∃ (X : HtA) (A : FlA) (sb : Nat), e = .returned (.tuple #[.pointer (some ⟨sb, 0, none⟩), .pointer (some ⟨X.pb, 0, none⟩), .bool true]) ∧ HSp C X A a gd true 3 sb B N w' ∧ (∀ x ∈ sb :: (X.all ++ A.all (cR C)), w.heap.size ≤ x) ∧ Gr [] w w' := by
  have HOp := Lib.hid hOp
  have HP := Lib.hid (And.intro hs (And.intro pg hY))
  clear hOp hs pg hY
  go_enter Tryz.func17, Tryz.ntmps17
  go_wp2_with fail
  refine HOp.out.mono ?_
  rintro e w2 ⟨X, A, rfl, h2, n2, g2⟩
  have H2 := Lib.hid (And.intro h2 (And.intro n2 g2))
  clear h2 n2 g2 HOp
  go_wp2_with fail
  refine (spnew_any X.pb _).mono ?_
  rintro e w3 ⟨sb, rfl, d3, l3, g3⟩
  have H3 := Lib.hid (show HSp C X A a gd true 3 sb B N w3 ∧ (∀ x ∈ sb :: (X.all ++ A.all (cR C)), w.heap.size ≤ x) ∧ Gr [] w w3 from ⟨HSp.new (H2.out.1.gr0 g3) HP.out.1 HP.out.2.1 HP.out.2.2 d3 (fun e => by have := H2.out.1.lt _ e; omega), fun x hx => by
    rcases List.mem_cons.1 hx with rfl | hx
    · have := H2.out.2.2.size
      omega
    · exact H2.out.2.1 x hx, H2.out.2.2.trans g3⟩)
  clear d3 l3 g3 H2
  go_wp2_with fail
  exact bodyPost_ret (v := .tuple #[.pointer (some ⟨sb, 0, none⟩), .pointer (some ⟨X.pb, 0, none⟩), .bool true]) (by simp [results, Tryz.results17, go_sem, *]) rfl ⟨X, A, sb, rfl, H3.out⟩
/-- Noughts. -/
def zBy (n : Nat) : ByteArray := ⟨Array.replicate n 0⟩
theorem zBy_size (n : Nat) : (zBy n).size = n := Array.size_replicate
theorem zBy_line {n L : Nat} (h : 64 * L + 64 ≤ n) : lnQ (zBy n) L = zBy 64 := by
  have z : ∀ n i, bs (zBy n) i = 0 := fun n i => by
    unfold bs zBy btS
    rw [Array.toList_replicate]
    simp [List.getD, List.getElem?_replicate]
    split <;> rfl
  unfold lnQ
  refine bs_ext (by rw [ByteArray.size_extract, zBy_size, zBy_size]; omega) fun i hi => ?_
  rw [ByteArray.size_extract, zBy_size] at hi
  rw [bs_extract _ _ _ _ (by omega), z, z]
theorem tY_zero (g k : Nat) : tY (fun _ _ _ => 0) g k = zBy 64 := by
  refine tY_is (zBy_size 64) fun m hm => ?_
  have : (zBy 64).data.toList = List.replicate 64 0 := by unfold zBy; rw [Array.toList_replicate]
  rw [this]
  exact zero_word hm
end
set_option maxRecDepth 100000 in
set_option maxHeartbeats 8000000 in
theorem fresh11 (key : Nat) (hk : key < 18446744073709551616) (w : World) : Calls Tryz.prog 7 #[.int .u64 (key : Int)] w fun e w' => ∃ (a : DevA) (X : HtA) (A : FlA) (sb : Nat), e = .returned (.tuple #[.pointer (some ⟨a.bd, 0, none⟩), .pointer (some ⟨sb, 0, none⟩), .pointer (some ⟨X.pb, 0, none⟩), .bool true]) ∧ HSp (spC key) X A a true true 3 sb (zBy 1536) 300000 w' ∧ (∀ x ∈ sb :: (X.all ++ (A.all (cR (spC key)) ++ a.all)), w.heap.size ≤ x) ∧ Gr [] w w' := by
  obtain ⟨oC, p3, z1, z2⟩ := spC_ok key hk
  have HCf := Lib.hid (fun W => config11 key W)
  obtain ⟨C, hC⟩ : ∃ C, C = spC key := ⟨_, rfl⟩
  rw [← hC] at oC p3 z1 z2 HCf ⊢
  obtain ⟨nC, hnC⟩ : ∃ n : Nat, (n : Int) = sizeC C := ⟨(sizeC C).toNat, by omega⟩
  have HN := Lib.hid (show 1 ≤ nC ∧ nC ≤ 8192 by omega)
  have HZ := Lib.hid (fun W => show Calls Tryz.prog 27 #[.agg #[.int .i64 C.r, .int .i64 C.l, .int .i64 C.s, .int .i64 C.psi, .int .u64 (C.key : Int)]] W (fun e w' => e = .returned (.int .i64 (nC : Int)) ∧ Gr [] W w') from by rw [hnC]; exact csize_any C oC.wf.1 W)
  have HMk := Lib.hid (fun W a (d : DevIs W a (newD nC)) => hmake_new (C := C) (n := nC) oC (by omega) (by omega) d)
  have HC := Lib.hid (And.intro oC p3)
  unfold cfgV at HCf HMk
  clear hC oC p3 z1 z2 hnC hk
  go_enter Tryz.func7, Tryz.ntmps7
  go_wp2_with fail
  refine (HCf.out _).mono ?_
  rintro e w2 ⟨rfl, g2⟩
  have hh := Holds.new w2 #[.int .i64 C.r, .int .i64 C.l, .int .i64 C.s, .int .i64 C.psi, .int .u64 (C.key : Int)] 64
  have ga := g2.alloc (Obj.cells #[.int .i64 C.r, .int .i64 C.l, .int .i64 C.s, .int .i64 C.psi, .int .u64 (C.key : Int)] 64)
  have H2 := Lib.hid (And.intro ga hh)
  clear g2 hh ga HCf
  go_upto_region 2 with fail
  generalize (w2.alloc (Obj.cells #[.int .i64 C.r, .int .i64 C.l, .int .i64 C.s, .int .i64 C.psi, .int .u64 (C.key : Int)] 64)) = w3 at *
  obtain ⟨pb, hpb⟩ : ∃ pb, w2.heap.size = pb := ⟨_, rfl⟩
  rw [hpb] at H2 ⊢
  clear hpb
  have c0 := H2.out.2.cell 0
  have c1 := H2.out.2.cell 1
  have c2 := H2.out.2.cell 2
  have c3 := H2.out.2.cell 3
  have c4 := H2.out.2.cell 4
  go_wp2_with fail
  with_reducible refine (HZ.out _).mono ?_
  rintro e w4 ⟨rfl, g4⟩
  have H4 := Lib.hid (And.intro (H2.out.1.trans g4) (H2.out.2.gr0 g4))
  clear g4 c0 c1 c2 c3 c4 H2 HZ
  go_wp2_with fail
  refine (pmnew_yes nC _ HN.out.1 HN.out.2).mono ?_
  rintro e w5 ⟨a, rfl, d5, hlo, g5⟩
  have HLO := Lib.hid (show ∀ x ∈ a.all, w.heap.size ≤ x ∧ pb < x from fun x hx => by have h1 := hlo x hx; have h2 := H4.out.2.lt; have h3 := H4.out.1.size; exact ⟨by omega, by omega⟩)
  have H5 := Lib.hid (And.intro (H4.out.1.trans g5) (And.intro (H4.out.2.gr0 g5) d5))
  have c0 := H5.out.2.1.cell 0
  have c1 := H5.out.2.1.cell 1
  have c2 := H5.out.2.1.cell 2
  have c3 := H5.out.2.1.cell 3
  have c4 := H5.out.2.1.cell 4
  clear d5 g5 hlo H4
  go_wp2_with fail
  with_reducible refine (HMk.out _ a H5.out.2.2).mono ?_
  rintro e w6 ⟨V, D, B, j, rfl, d6, f6, j6, g6⟩
  have H6 := Lib.hid (And.intro d6 (And.intro f6 (H5.out.1.nextN g6 fun x hx => .inr (HLO.out x hx).1)))
  clear d6 f6 j6 g6 c0 c1 c2 c3 c4 H5 HMk
  have HOp := Lib.hid (open11 (B := zBy 1536) (N := 300000) (Y := fun _ _ _ => 0) (gd := true) (C := C) (a := a) (w := w6) (by
    have n := pg_nums HC.out.1 (by have := HC.out.2; omega)
    refine (hopen_any (lim := 3) HC.out.1 H6.out.2.1 H6.out.1 (by have := HC.out.2; omega) (by have := HC.out.2; omega) (mkF_tb HC.out.1 (by have := HC.out.2; omega)) (fun _ _ => Nat.zero_le _) (by omega) (by omega)).mono ?_
    rintro e w7 ⟨X, A, tk, rfl, q, nn, gr⟩
    exact ⟨X, A, rfl, HL.any ⟨by omega, by omega, _, _, _, _, q.more (by have := HC.out.2; omega), fun g k m hg hk hm => mkF_zero n.2.2.2.2.1 (by show 8 * tbC C ≤ 8 * (tbC C + g) + k; omega)⟩, nn, gr⟩) (by rw [zBy_size, HC.out.2]) (by rw [HC.out.2]; omega) (fun g k hg hk => by
    rw [tY_zero, zBy_line (by have := HC.out.2; omega)]))
  go_wp2_with fail
  refine HOp.out.mono ?_
  rintro e w7 ⟨X, A, sb, rfl, h7, n7, g7⟩
  have H7 := Lib.hid (show HSp C X A a true true 3 sb (zBy 1536) 300000 w7 ∧ (∀ x ∈ sb :: (X.all ++ (A.all (cR C) ++ a.all)), w.heap.size ≤ x) ∧ Gr [] w w7 from ⟨h7, fun x hx => by
    have hs := H6.out.2.2.size
    rcases List.mem_cons.1 hx with rfl | hx
    · have := n7 x (by simp)
      omega
    · rcases List.mem_append.1 hx with hx | hx
      · have := n7 x (List.mem_cons_of_mem _ (List.mem_append.2 (.inl hx)))
        omega
      · rcases List.mem_append.1 hx with hx | hx
        · have := n7 x (List.mem_cons_of_mem _ (List.mem_append.2 (.inr hx)))
          omega
        · exact (HLO.out x hx).1, H6.out.2.2.trans g7⟩)
  clear h7 n7 g7 H6 HOp
  go_wp2_with fail
  exact bodyPost_ret (v := .tuple #[.pointer (some ⟨a.bd, 0, none⟩), .pointer (some ⟨sb, 0, none⟩), .pointer (some ⟨X.pb, 0, none⟩), .bool true]) (by simp [results, Tryz.results7, go_sem, *]) rfl ⟨a, X, A, sb, rfl, H7.out⟩
end Go.Proofs.YtifekejcbhllpaaGreat

/-
  Layer 11: writes on a calm device; wakes.
-/
namespace Go.Proofs.YtifekejcbhllpaaGreat
open Go.RowKit
set_option linter.unusedVariables false

section
variable {w w' : World} {X : HtA} {A : FlA} {a : DevA} {C : CfgZ} {gd cm : Bool} {N N' lim sb : Nat} {B : ByteArray}
theorem HSp.write (h : HSp C X A a true true lim sb B N w) (K : Nat) (b : ByteArray) (hb : K + b.size ≤ B.size) (hN : N + 42000 * b.size < 400000000) :
    Calls Tryz.prog 11 #[.pointer (some ⟨sb, 0, none⟩), .int .i64 (K : Int), .string b] w fun e w' => e = .returned (.int .i64 0) ∧ HSp C X A a true true lim sb (splB B K b) (N + 42000 * b.size) w' ∧ Gr (X.all ++ (A.all (cR C) ++ a.all)) w w' := by
  refine (spwrite_in h K b hb hN).mono ?_
  rintro e w2 ⟨x, rfl, hx, g2⟩
  rcases hx with ⟨rfl, q⟩ | ⟨_, e, _⟩ | ⟨_, e⟩
  · exact ⟨rfl, q, g2⟩
  · exact absurd e (by decide)
  · exact absurd e (by decide)
theorem HSp.all (h : HSp C X A a gd cm lim sb B N w) : Calls Tryz.prog 12 #[.pointer (some ⟨sb, 0, none⟩), .int .i64 0, .int .i64 (B.size : Int)] w fun e w' => e = .returned (.tuple #[.string B, .int .i64 0]) ∧ Gr [] w w' := by
  have := spread_in h 0 B.size (by omega)
  rw [Nat.zero_add, ext_all] at this
  exact this
end
section
variable {B b : ByteArray} {k j : Nat}
/-- What was laid is there. -/
theorem splB_mid (h : k + b.size ≤ B.size) : (splB B k b).extract k (k + b.size) = b := by
  have z := splB_size (B := B) (b := b) (k := k) h
  refine bs_ext (by rw [ByteArray.size_extract]; omega) fun i hi => ?_
  rw [ByteArray.size_extract] at hi
  rw [bs_extract _ _ _ _ (by omega), splB_bs h (by omega), if_neg (by omega), if_pos (by omega)]
  congr 1
  omega
/-- In two parts, the second first. -/
theorem splB_two (h : k + b.size ≤ B.size) (hj : j ≤ b.size) : splB (splB B (k + j) (b.extract j b.size)) k (b.extract 0 j) = splB B k b := by
  have s0 := ext_size (b := b) (j := 0) (j2 := j) hj (Nat.zero_le _)
  have s1 := ext_size (b := b) (j := j) (j2 := b.size) (Nat.le_refl _) hj
  have z1 : (splB B (k + j) (b.extract j b.size)).size = B.size := splB_size (by omega)
  have z2 : (splB (splB B (k + j) (b.extract j b.size)) k (b.extract 0 j)).size = B.size := (splB_size (by omega)).trans z1
  have z3 : (splB B k b).size = B.size := splB_size h
  refine bs_ext (z2.trans z3.symm) fun i hi => ?_
  rw [z2] at hi
  rw [splB_bs (B := splB B (k + j) (b.extract j b.size)) (by omega) (by omega), splB_bs (B := B) (b := b.extract j b.size) (by omega) hi, splB_bs h hi, s0, s1, Nat.sub_zero]
  by_cases c1 : i < k
  · have c2 : i < k + j := by omega
    simp only [c1, c2, if_true]
  · by_cases c2 : i < k + j
    · have c3 : i < k + b.size := by omega
      simp only [c1, c2, c3, if_true, if_false]
      rw [bs_extract _ _ _ _ (by omega), Nat.zero_add]
    · by_cases c3 : i < k + b.size
      · have c4 : i < k + j + (b.size - j) := by omega
        simp only [c1, c2, c3, c4, if_true, if_false]
        rw [bs_extract _ _ _ _ (by omega)]
        congr 1
        omega
      · have c4 : ¬ i < k + j + (b.size - j) := by omega
        simp only [c1, c2, c3, c4, if_false]
end
theorem zBy_bs (n i : Nat) : bs (zBy n) i = 0 := by
  unfold bs zBy btS
  rw [Array.toList_replicate]
  simp [List.getD, List.getElem?_replicate]
  split <;> rfl
theorem wakes_text : (splB (zBy 1536) 60 ⟨#[97, 98, 99, 100, 101, 102, 103, 104]⟩).extract 59 69 = ⟨#[0, 97, 98, 99, 100, 101, 102, 103, 104, 0]⟩ := by
  have z8 : (⟨#[97, 98, 99, 100, 101, 102, 103, 104]⟩ : ByteArray).size = 8 := rfl
  have hz : 60 + (⟨#[97, 98, 99, 100, 101, 102, 103, 104]⟩ : ByteArray).size ≤ (zBy 1536).size := by rw [z8, zBy_size]; omega
  have zs : (splB (zBy 1536) 60 ⟨#[97, 98, 99, 100, 101, 102, 103, 104]⟩).size = 1536 := (splB_size hz).trans (zBy_size _)
  refine bs_ext (by rw [ByteArray.size_extract, zs]; rfl) fun i hi => ?_
  rw [ByteArray.size_extract, zs] at hi
  rw [bs_extract _ _ _ _ (by omega), splB_bs hz (by rw [zBy_size]; omega), zBy_bs, z8]
  rcases (show i = 0 ∨ i = 1 ∨ i = 2 ∨ i = 3 ∨ i = 4 ∨ i = 5 ∨ i = 6 ∨ i = 7 ∨ i = 8 ∨ i = 9 by omega) with rfl | rfl | rfl | rfl | rfl | rfl | rfl | rfl | rfl | rfl <;> rfl
set_option maxRecDepth 100000 in
set_option maxHeartbeats 8000000 in
theorem wakes11 (w : World) : Calls Tryz.prog 8 #[] w fun e w' => e = .returned (.bool true) ∧ Gr [] w w' := by
  have HF := Lib.hid (fresh11 7 (by omega) w)
  go_enter Tryz.func8, Tryz.ntmps8
  go_wp2_with fail
  refine HF.out.mono ?_
  rintro e w2 ⟨a, X, A, sb, rfl, h2, n2, g2⟩
  have H2 := Lib.hid (And.intro h2 (And.intro n2 g2))
  have HSz := Lib.hid (spsize_any h2)
  rw [zBy_size] at HSz
  have HWr := Lib.hid (h2.write 60 ⟨#[97, 98, 99, 100, 101, 102, 103, 104]⟩ (by rw [zBy_size]; decide) (by decide))
  clear h2 n2 g2 HF
  go_wp2_with fail
  refine HSz.out.mono ?_
  rintro e w3 ⟨rfl, rfl⟩
  go_wp2_with fail
  refine HWr.out.mono ?_
  rintro e w4 ⟨rfl, h4, g4⟩
  have H4 := Lib.hid (And.intro h4 (H2.out.2.2.nextN g4 fun x hx => .inr (H2.out.2.1 x (List.mem_cons_of_mem _ hx))))
  have HRd := Lib.hid (spread_in h4 59 10 (by rw [splB_size (by rw [zBy_size]; decide), zBy_size]; omega))
  rw [show 59 + 10 = 69 from rfl, wakes_text] at HRd
  clear h4 g4 HWr HSz H2
  go_wp2_with fail
  refine HRd.out.mono ?_
  rintro e w5 ⟨rfl, g5⟩
  have H5 := Lib.hid (H4.out.2.trans g5)
  clear g5 HRd H4
  go_wp2_with fail
  go_ret
  exact ⟨rfl, H5.out⟩
end Go.Proofs.YtifekejcbhllpaaGreat
