/-
  MgI: SpJ, SpK.
-/
import Derived.Test.YtgifjnniohcacaaGreatSpI

/-
  Layer 5: the law's full; wakes.
-/
namespace Go.Proofs.YtgifjnniohcacaaGreat
open Go.RowKit

set_option maxRecDepth 20000 in
theorem full05 (s : ByteArray) (w : World) (hs : s.size ≤ 4611686018427387904) :
    Calls Tryz.prog 9 #[.string s] w fun e w' => e = .returned (.string (fullS s)) ∧ Gr [] w w' := by
  go_enter Tryz.func9, Tryz.ntmps9
  go_wp2_with fail
  refine (repeat64 _).mono ?_
  rintro e w1 ⟨rfl, g1⟩
  have HG := Lib.hid g1
  clear g1
  go_wp2_with fail
  go_ret
  exact ⟨by rw [← extract_full]; rfl, HG.out⟩
theorem fullS_max (s : ByteArray) : (fullS s).size ≤ maxLen := by rw [fullS_size]; unfold maxLen; omega
def p05 : PlanZ := ⟨0, 4, 2⟩
def B05 : BkS := ⟨1, updZ (fun _ => none) 0 (some 0)⟩
/-- What the document's example of a worn line leaves. -/
theorem write05 {D : DevS} {s : ByteArray} (h : Zero D) (hn : D.n = 7) (hb1 : D.bad 1 = true) (hb5 : D.bad 5 = false) (hs : s.size = 64) (hw : wdL s.data.toList 0 ≠ 0) :
    ∃ E, writeS p05 0 s D ⟨0, fun _ => none⟩ = (0, E, B05) ∧ Calm E ∧ E.n = 7 ∧ ∀ k, k < 8 → E.med (8 * 5 + k) = wdL s.data.toList k := by
  obtain ⟨E2, e2, s2⟩ := put_calm (l := 1) h.calm (by omega) hs
  have m2 : ∀ x, E2.med x = 0 := fun x => by rw [s2.med, if_neg (fun e => by rw [hb1] at e; cases e.2.2), h.med]
  have t2 : tookB E2 ((1 : Nat) : Int) s = false := took_not (k := 0) (by omega) (by rw [m2]; exact fun e => hw e.symm)
  obtain ⟨E3, e3, s3⟩ := put_calm (l := 5) s2.calm (by rw [s2.n]; omega) hs
  have m3 : ∀ k, k < 8 → E3.med (8 * 5 + k) = wdL s.data.toList k := fun k hk => by
    rw [s3.med, if_pos ⟨by omega, by omega, by rw [s2.bad]; exact hb5⟩]
    congr 1
    omega
  have n3 : E3.n = 7 := by rw [s3.n, s2.n, hn]
  have t3 : tookB E3 ((5 : Nat) : Int) s = true := took_of (by omega) hs m3
  obtain ⟨E4, e4, s4⟩ := putword_calm (D := E3) (l := 0) (k := 0) (v := guardN 1) s3.calm (by omega) (by omega)
  refine ⟨E4, ?_, s4.calm, by rw [s4.n, n3], fun k hk => ?_⟩
  · have r : replaceS p05 0 s E2 ⟨0, fun _ => none⟩ = ⟨true, 0, E4, B05⟩ := by
      have q1 : spareP p05 ((0 : Nat) : Int) = ((5 : Nat) : Int) := by decide
      have q2 : p05.a + ((0 : Nat) : Int) / 8 = ((0 : Nat) : Int) := by decide
      have q3 : ((0 : Nat) : Int) % 8 = ((0 : Nat) : Int) := by decide
      unfold replaceS
      simp only [q1, q2, q3, e3]
      have q4 : markN E3 ((5 : Nat) : Int) 0 s = 1 := by unfold markN; rw [t3]; rfl
      rw [q4, e4, t3]
      rfl
    have q1 : placeP p05 ⟨0, fun _ => none⟩ 0 = ((1 : Nat) : Int) := by decide
    unfold writeS
    rw [if_neg (by simp [hs]), if_pos (by decide), q1, e2]
    show (if (0 : Int) ≠ 0 then _ else _) = _
    rw [if_neg (by simp)]
    show ensureS p05 0 ((1 : Nat) : Int) s E2 ⟨0, fun _ => none⟩ = _
    unfold ensureS
    rw [t2]
    show ensS p05 0 s 2 E2 ⟨0, fun _ => none⟩ = _
    unfold ensS
    rw [r]
    rfl
  · rw [s4.med, if_neg (by omega)]
    exact m3 k hk
end Go.Proofs.YtgifjnniohcacaaGreat

/-
  Layer 5: wakes.
-/
namespace Go.Proofs.YtgifjnniohcacaaGreat
open Go.RowKit

set_option maxRecDepth 100000 in
set_option maxHeartbeats 8000000 in
theorem wakes05 (w : World) : Calls Tryz.prog 6 #[] w fun e w' => e = .returned (.bool true) ∧ Gr [] w w' := by
  have HF := Lib.hid (fun W => full05 ⟨#[97, 98, 99]⟩ W (by show 3 ≤ _; omega))
  obtain ⟨S, hS⟩ : ∃ S, fullS ⟨#[97, 98, 99]⟩ = S := ⟨_, rfl⟩
  have HSZ := Lib.hid (show S.size = 64 by rw [← hS]; exact abc_size)
  have HSW := Lib.hid (show wdL S.data.toList 0 ≠ 0 by rw [← hS]; exact abc_word)
  have HSM := Lib.hid (show S.size ≤ maxLen by rw [← hS]; exact fullS_max _)
  rw [hS] at HF
  clear hS
  have HH := Holds.new w #[.int .i64 0, .int .i64 4, .int .i64 2] 63
  have HG0 := Lib.hid ((Gr.refl [] w).alloc (Obj.cells #[.int .i64 0, .int .i64 4, .int .i64 2] 63))
  have hlt : w.heap.size < (w.alloc (Obj.cells #[.int .i64 0, .int .i64 4, .int .i64 2] 63)).heap.size := by rw [World.size_alloc]; omega
  have HZ := Lib.hid (fun W => show Calls Tryz.prog 30 #[.agg #[.int .i64 0, .int .i64 4, .int .i64 2]] W fun e w' => e = .returned (.int .i64 7) ∧ Below W.heap.size W w' from size_any p05 W)
  go_enter Tryz.func6, Tryz.ntmps6
  go_upto_region 2 with fail
  obtain ⟨pb, hpb⟩ : ∃ pb, pb = w.heap.size := ⟨_, rfl⟩
  rw [← hpb] at HH hlt ⊢
  have HPB := Lib.hid (show w.heap.size ≤ pb by omega)
  clear hpb
  generalize (w.alloc (Obj.cells #[.int .i64 0, .int .i64 4, .int .i64 2] 63)) = w1 at *
  have HHd := Lib.hid HH
  clear HH
  have HL := Lib.hid hlt
  clear hlt
  go_wp2_with fail
  refine (pmnew_yes 7 _ (by omega) (by omega)).mono ?_
  rintro e w2 ⟨a, rfl, d2, hlo, g2⟩
  have HN := Lib.hid (show ∀ (wa wb : World), Gr [] w wa → Gr a.all wa wb → Gr [] w wb from fun wa wb p q => p.nextN q fun x hx => .inr (Nat.le_trans HG0.out.size (hlo x hx)))
  have HLO := Lib.hid (show ∀ x ∈ a.all, w.heap.size ≤ x from fun x hx => Nat.le_trans HG0.out.size (hlo x hx))
  have HNP := Lib.hid (show pb ∉ a.all from fun q => by have := hlo _ q; have := HL.out; omega)
  have H2 := Lib.hid (And.intro d2 (And.intro (HHd.out.gr0 g2) (HG0.out.trans g2)))
  have c0 := H2.out.2.1.cell 0
  have c1 := H2.out.2.1.cell 1
  have c2 := H2.out.2.1.cell 2
  clear d2 g2 hlo HHd HG0 HL
  have HFm := Lib.hid (show Calls Tryz.prog 28 #[.pointer (some ⟨a.bd, 0, none⟩), .agg #[.int .i64 0, .int .i64 4, .int .i64 2]] w2 _ from format_ok (p := p05) (c := 0) H2.out.1 (zero_new 7) ⟨Nat.le_refl _, fun l => ⟨Int.le_refl _, Int.le_refl _⟩⟩ (by omega) (by decide))
  obtain ⟨z3, n3, b3⟩ := fmt_zero (p := p05) (zero_new 7) (by decide) 5 (by decide)
  rw [show (tabZ p05 + p05.l).toNat = 5 by decide] at HFm
  generalize fmtD p05 5 (newD 7) = D3 at *
  have HZ3 := Lib.hid (And.intro z3 (And.intro (show D3.n = 7 from n3) (show D3.bad = fun _ => false from b3)))
  clear z3 n3 b3
  go_wp2_with fail
  refine HFm.out.mono ?_
  rintro e w3 ⟨rfl, d3, q3, g3⟩
  have H3 := Lib.hid (And.intro d3 (And.intro (H2.out.2.1.gr g3 HNP.out) (And.intro (HN.out _ _ H2.out.2.2 g3) q3)))
  clear d3 q3 g3 c0 c1 c2 H2 HFm
  have c0 := H3.out.2.1.cell 0
  have c1 := H3.out.2.1.cell 1
  have c2 := H3.out.2.1.cell 2
  have HOp := Lib.hid (show Calls Tryz.prog 23 #[.pointer (some ⟨a.bd, 0, none⟩), .agg #[.int .i64 0, .int .i64 4, .int .i64 2]] w3 _ from open_zero (p := p05) H3.out.1 HZ3.out.1.calm.off (by rw [HZ3.out.2.1]; decide) (fun k hk => by rw [calm_load HZ3.out.1.calm]; exact HZ3.out.1.med _))
  go_wp2_with fail
  refine HOp.out.mono ?_
  rintro e w4 ⟨q, rfl, k4, hq, g4⟩
  have HNQ := Lib.hid (show ∀ (wa wb : World), Gr [] w wa → Gr (q.all ++ a.all) wa wb → Gr [] w wb from fun wa wb p r => p.nextN (cs := q.all ++ a.all) r fun x hx => by
    rcases List.mem_append.1 hx with hx | hx
    · exact .inr (Nat.le_trans H3.out.2.2.1.size (hq x hx))
    · exact .inr (HLO.out x hx))
  have H4 := Lib.hid (And.intro (H3.out.1.gr0 g4) (And.intro k4 (And.intro (H3.out.2.2.1.trans g4) (And.intro H3.out.2.2.2 (H3.out.2.1.gr0 g4)))))
  clear k4 hq g4 c0 c1 c2 H3 HOp
  have c0 := H4.out.2.2.2.2.cell 0
  have c1 := H4.out.2.2.2.2.cell 1
  have c2 := H4.out.2.2.2.2.cell 2
  go_wp2_with fail
  refine (HZ.out _).mono ?_
  rintro e w5 ⟨rfl, b5⟩
  have g5 := Gr.ofBelow (cs := []) b5
  have H5 := Lib.hid (And.intro (H4.out.1.gr0 g5) (And.intro (H4.out.2.1.gr0 g5) (And.intro (H4.out.2.2.1.trans g5) H4.out.2.2.2.1)))
  clear b5 g5 c0 c1 c2 H4 HZ
  have HBr := Lib.hid (break_in a D3 1 w5 H5.out.1 (by rw [HZ3.out.2.1]; omega))
  go_wp2_with fail
  refine HBr.out.mono ?_
  rintro e w6 ⟨rfl, d6, g6⟩
  obtain ⟨D6, hD6⟩ : ∃ D6 : DevS, D6 = { D3 with bad := fun j => if j = 1 then true else D3.bad j } := ⟨_, rfl⟩
  rw [← hD6] at d6
  have HD6 := Lib.hid (show Zero D6 ∧ D6.n = 7 ∧ D6.bad 1 = true ∧ D6.bad 5 = false ∧ Bd D6 50 by
    rw [hD6]
    exact ⟨⟨⟨HZ3.out.1.calm.off, HZ3.out.1.calm.fuse, HZ3.out.1.calm.buf⟩, HZ3.out.1.med⟩, HZ3.out.2.1, rfl, by show D3.bad 5 = false; rw [HZ3.out.2.2], H5.out.2.2.2⟩)
  have g6a : Gr a.all w5 w6 := g6.mono (fun b hb => by simp at hb; subst hb; simp [DevA.all])
  have H6 := Lib.hid (And.intro d6 (And.intro (H5.out.2.1.grD g6a) (HN.out _ _ H5.out.2.2.1 g6a)))
  clear d6 g6 g6a hD6 H5 HZ3 HBr
  go_wp2_with fail
  refine (HF.out _).mono ?_
  rintro e w7 ⟨rfl, g7⟩
  have H7 := Lib.hid (And.intro (H6.out.1.gr0 g7) (And.intro (H6.out.2.1.gr0 g7) (H6.out.2.2.trans g7)))
  clear g7 H6
  obtain ⟨D8, e8, c8, n8, m8⟩ := write05 HD6.out.1 HD6.out.2.1 HD6.out.2.2.1 HD6.out.2.2.2.1 HSZ.out HSW.out
  have HW := Lib.hid (bwrite_any 0 S H7.out.2.1 H7.out.1 HD6.out.2.2.2.2 (by omega) HSM.out (by omega))
  rw [e8] at HW
  have H8 := Lib.hid (And.intro c8 (And.intro n8 m8))
  clear e8 c8 n8 m8
  go_wp2_with fail
  refine HW.out.mono ?_
  rintro e w8 ⟨rfl, d8, b8, k8, g8⟩
  have HB := Lib.hid (And.intro d8 (And.intro k8 (HNQ.out _ _ H7.out.2.2 g8)))
  clear d8 b8 k8 g8 HW H7 HD6
  have HWh := Lib.hid (where_in 0 HB.out.2.1 (by decide))
  rw [show placeP p05 B05 0 = 5 by decide] at HWh
  go_wp2_with fail
  refine HWh.out.mono ?_
  rintro e w9 ⟨rfl, g9⟩
  have HB9 := Lib.hid (And.intro (HB.out.1.gr0 g9) (And.intro (HB.out.2.1.gr0 g9) (HB.out.2.2.trans g9)))
  clear g9 HB HWh
  have HRd := Lib.hid (read_any 0 HB9.out.2.1 HB9.out.1 (by rw [H8.out.2.1]; decide))
  rw [show readR D8 p05 B05 0 = (S, 0) by
    unfold readR
    rw [if_pos (by decide), H8.out.1.off, show placeP p05 B05 0 = 5 by decide]
    show ((⟨(getT D8 5).toArray⟩ : ByteArray), (0 : Int)) = _
    rw [getT_of H8.out.1 HSZ.out H8.out.2.2]] at HRd
  go_wp2_with fail
  refine HRd.out.mono ?_
  rintro e w10 ⟨rfl, g10⟩
  have HB10 := Lib.hid (And.intro (HB9.out.1.gr0 g10) (And.intro (HB9.out.2.1.gr0 g10) (HB9.out.2.2.trans g10)))
  clear g10 HB9 HRd
  go_wp2_with fail
  refine (HF.out _).mono ?_
  rintro e w11 ⟨rfl, g11⟩
  have HB11 := Lib.hid (And.intro (HB10.out.2.1.gr0 g11) (HB10.out.2.2.trans g11))
  clear g11 HB10
  have HLe := Lib.hid (left_at HB11.out.1)
  rw [show p05.s - (B05.used : Int) = 1 by decide] at HLe
  go_wp2_with fail
  refine HLe.out.mono ?_
  rintro e w12 ⟨rfl, g12⟩
  have HB12 := Lib.hid (And.intro (HB11.out.1.gr0 g12) (HB11.out.2.trans g12))
  clear g12 HB11 HLe
  have HLi := Lib.hid (lines_at HB12.out.1)
  go_wp2_with fail
  refine HLi.out.mono ?_
  rintro e w13 ⟨rfl, rfl⟩
  go_wp2_with fail
  go_ret
  exact ⟨rfl, HB12.out.2⟩
end Go.Proofs.YtgifjnniohcacaaGreat
