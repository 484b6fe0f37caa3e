/-
  SpareCount.
-/
import Derived.Test.YtgifjnniohcacaaMgQ
import Derived.Deep.CutBlock
namespace Go.Proofs.Ytgifjnniohcacaa
open Go.RowKit
set_option linter.unusedVariables false

theorem and1_u8 (x : Nat) (h : x < 256) : bits BinOp.and IntKind.u8 (x : Int) 1 = ((x % 2 : Nat) : Int) := by
  have : ∀ y : Fin 256, bits BinOp.and IntKind.u8 ((y.val : Nat) : Int) 1 = ((y.val % 2 : Nat) : Int) := by decide +kernel
  exact this ⟨x, h⟩
theorem bit8 (d k : Nat) (h : d < 256) : (bits BinOp.and IntKind.u8 ((d : Int) / 2 ^ k) 1 == 1) = decide (d / 2 ^ k % 2 = 1) := by
  have h1 : (d : Int) / 2 ^ k = ((d / 2 ^ k : Nat) : Int) := by
    rw [Int.natCast_ediv, Int.natCast_pow]; rfl
  have h2 : d / 2 ^ k ≤ d := Nat.div_le_self _ _
  rw [h1, and1_u8 _ (by omega)]
  by_cases c : d / 2 ^ k % 2 = 1
  · rw [c, decide_eq_true rfl]; rfl
  · rw [decide_eq_false c, show d / 2 ^ k % 2 = 0 by omega]; rfl
theorem let_facts (i : Nat) (h : i < 8) : (Utf8.encode (97 + (i : Int))).size ≤ 4 ∧ wdL (fullS (Utf8.encode (97 + (i : Int)))).data.toList 0 ≠ 0 := by
  rcases (show i = 0 ∨ i = 1 ∨ i = 2 ∨ i = 3 ∨ i = 4 ∨ i = 5 ∨ i = 6 ∨ i = 7 by omega) with rfl | rfl | rfl | rfl | rfl | rfl | rfl | rfl <;> decide +kernel
set_option maxRecDepth 100000 in
set_option maxHeartbeats 16000000 in
theorem count_law (dead n : Nat) (hd : dead < 256) (hn : n < 256) (w : World) :
    Calls Try.prog 5 #[.int .u8 (dead : Int), .int .u8 (n : Int)] w fun e w' => e = .returned (.bool true) ∧ Gr [] w w' := by
  have HH := Holds.new w #[.int .i64 0, .int .i64 8, .int .i64 6] 28
  have HG0 := Lib.hid ((Gr.refl [] w).alloc (Obj.cells #[.int .i64 0, .int .i64 8, .int .i64 6] 28))
  have hlt : w.heap.size < (w.alloc (Obj.cells #[.int .i64 0, .int .i64 8, .int .i64 6] 28)).heap.size := by rw [World.size_alloc]; omega
  have HDN := Lib.hid (And.intro hd hn)
  clear hd hn
  go_enter Try.func5, Try.ntmps5
  go_upto_region 2 with fail
  obtain ⟨pb, hpb⟩ : ∃ pb, pb = w.heap.size := ⟨_, rfl⟩
  rw [← hpb] at HH hlt ⊢
  clear hpb
  generalize (w.alloc (Obj.cells #[.int .i64 0, .int .i64 8, .int .i64 6] 28)) = w1 at *
  have HHd := Lib.hid HH
  clear HH
  have HL := Lib.hid hlt
  clear hlt
  go_wp2_with fail
  refine (pmnew_yes 15 _ (by omega) (by omega)).mono ?_
  rintro e w2 ⟨a, rfl, d2, hlo, g2⟩
  have HN := Lib.hid (show ∀ (wa wb : World), Gr [] w wa → Gr a.all wa wb → Gr [] w wb from fun wa wb p q => p.nextN q fun x hx => .inr (Nat.le_trans HG0.out.size (hlo x hx)))
  have HLO := Lib.hid (show ∀ x ∈ a.all, w.heap.size ≤ x from fun x hx => Nat.le_trans HG0.out.size (hlo x hx))
  have HNP := Lib.hid (show pb ∉ a.all from fun q => by have := hlo _ q; have := HL.out; omega)
  have H2 := Lib.hid (And.intro d2 (And.intro (HHd.out.gr0 g2) (HG0.out.trans g2)))
  have c0 := H2.out.2.1.cell 0
  have c1 := H2.out.2.1.cell 1
  have c2 := H2.out.2.1.cell 2
  clear d2 g2 hlo HHd HG0 HL
  have HFm := Lib.hid (show Calls Try.prog 14 #[.pointer (some ⟨a.bd, 0, none⟩), .agg #[.int .i64 0, .int .i64 8, .int .i64 6]] w2 _ from format_ok (p := p06) (c := 0) H2.out.1 (zero_new 15) ⟨Nat.le_refl _, fun l => ⟨Int.le_refl _, Int.le_refl _⟩⟩ (by omega) (by decide))
  obtain ⟨z3, n3, b3⟩ := fmt_zero (p := p06) (zero_new 15) (by decide) 9 (by decide)
  rw [show (tabZ p06 + p06.l).toNat = 9 by decide] at HFm
  generalize fmtD p06 9 (newD 15) = D3 at *
  have HZ3 := Lib.hid (And.intro z3 (And.intro (show D3.n = 15 from n3) (show D3.bad = fun _ => false from b3)))
  clear z3 n3 b3
  go_wp2_with fail
  refine HFm.out.mono ?_
  rintro e w3 ⟨rfl, d3, q3, g3⟩
  have H3 := Lib.hid (And.intro d3 (And.intro (H2.out.2.1.gr g3 HNP.out) (And.intro (HN.out _ _ H2.out.2.2 g3) q3)))
  clear d3 q3 g3 c0 c1 c2 H2 HFm
  go_wp2_with fail
  refine (wakes05 _).mono ?_
  rintro e w4 ⟨rfl, g4⟩
  have H4 := Lib.hid (And.intro (H3.out.1.gr0 g4) (And.intro (H3.out.2.1.gr0 g4) (And.intro (H3.out.2.2.1.trans g4) H3.out.2.2.2)))
  clear g4 H3
  have c0 := H4.out.2.1.cell 0
  have c1 := H4.out.2.1.cell 1
  have c2 := H4.out.2.1.cell 2
  have HOp := Lib.hid (show Calls Try.prog 13 #[.pointer (some ⟨a.bd, 0, none⟩), .agg #[.int .i64 0, .int .i64 8, .int .i64 6]] w4 _ from open_zero (p := p06) H4.out.1 HZ3.out.1.calm.off (by rw [HZ3.out.2.1]; decide) (fun k hk => by rw [calm_load HZ3.out.1.calm]; exact HZ3.out.1.med _))
  go_wp2_with fail
  refine HOp.out.mono ?_
  rintro e w5 ⟨q, rfl, k5, hq, g5⟩
  have HNQ := Lib.hid (show ∀ (wa wb : World), Gr [] w wa → Gr (q.all ++ a.all) wa wb → Gr [] w wb from fun wa wb p r => p.nextN (cs := q.all ++ a.all) r fun x hx => by
    rcases List.mem_append.1 hx with hx | hx
    · exact .inr (Nat.le_trans H4.out.2.2.1.size (hq x hx))
    · exact .inr (HLO.out x hx))
  have H5 := Lib.hid (And.intro (H4.out.1.gr0 g5) (And.intro k5 (And.intro (H4.out.2.2.1.trans g5) H4.out.2.2.2)))
  clear k5 hq g5 c0 c1 c2 H4 HOp HNP HLO
  go_wp2_with fail
  obtain ⟨f, hf⟩ : ∃ f : Nat → Bool, f = fun k => decide (dead / 2 ^ k % 2 = 1) := ⟨_, rfl⟩
  have Hf := Lib.hid hf
  clear hf
  go_loopw [10, 42] (fun t k wr => ∃ (j : Nat) (D : DevS), j ≤ 6 ∧ k = .int .i64 j ∧ t = .int .i64 (gds f j 0 : Nat) ∧ Zero D ∧ D.n = 15 ∧ (∀ x, D.bad x = (decide (9 ≤ x ∧ x < 9 + j) && f (x - 9))) ∧ DevIs wr a D ∧ BkIs wr q a p06 ⟨0, fun _ => none⟩ 0 ∧ Gr [] w wr ∧ Bd D 90) (fun _ k _ => 6 - (intOf k).toNat)
  case atStart => exact ⟨0, D3, by omega, rfl, rfl, HZ3.out.1, HZ3.out.2.1, fun x => by rw [HZ3.out.2.2, decide_eq_false (by omega)]; rfl, H5.out.1, H5.out.2.1, H5.out.2.2.1, H5.out.2.2.2⟩
  case round =>
    obtain ⟨j, D, hj, rfl, rfl, z1, z2, z3, d5, k5, g5, b5⟩ := hrel
    have HR := Lib.hid (And.intro z1 (And.intro z2 (And.intro z3 (And.intro d5 (And.intro k5 (And.intro g5 b5))))))
    clear z1 z2 z3 d5 k5 g5 b5
    by_cases hj6 : j < 6
    · have ij : (j : Int) < 6 := by omega
      have hbit : (bits BinOp.and IntKind.u8 ((dead : Int) / 2 ^ j) 1 == 1) = f j := by rw [Hf.out]; exact bit8 dead j HDN.out.1
      have HGl := Lib.hid (gds_last f j 0)
      cases hfj : f j with
      | true =>
        rw [hfj] at hbit
        have HFJ := Lib.hid hfj
        clear hfj
        have HBr := Lib.hid (break_in a D (9 + j) wr HR.out.2.2.2.1 (by rw [HR.out.2.1]; omega))
        rw [show ((9 + j : Nat) : Int) = 9 + (j : Int) by omega] at HBr
        go_wp2_with fail
        refine HBr.out.mono ?_
        rintro e w6 ⟨rfl, d6, g6⟩
        have g6a : Gr a.all wr w6 := g6.mono (fun b hb => by simp at hb; subst hb; simp [DevA.all])
        have H6 := Lib.hid (And.intro d6 (And.intro (HR.out.2.2.2.2.1.grD g6a) (HN.out _ _ HR.out.2.2.2.2.2.1 g6a)))
        clear d6 g6 g6a HBr
        go_wp2_with fail
        go_roundw
        case rel =>
          refine ⟨j + 1, { D with bad := fun x => if x = 9 + j then true else D.bad x }, by omega, by go_num, ?_, ⟨⟨HR.out.1.calm.off, HR.out.1.calm.fuse, HR.out.1.calm.buf⟩, HR.out.1.med⟩, HR.out.2.1, ?_, H6.out.1, H6.out.2.1, H6.out.2.2, HR.out.2.2.2.2.2.2⟩
          · have q := HGl.out
            rw [if_pos (by rw [Nat.zero_add]; exact HFJ.out)] at q
            rw [q]
            rfl
          · intro x
            show (if x = 9 + j then true else D.bad x) = _
            by_cases c : x = 9 + j
            · rw [if_pos c, decide_eq_true (by omega), c, show 9 + j - 9 = j by omega, HFJ.out]; rfl
            · rw [if_neg c, HR.out.2.2.1 x]
              congr 1
              rw [decide_eq_decide]
              omega
        case measure => simp [intOf]; omega
      | false =>
        rw [hfj] at hbit
        have HFJ := Lib.hid hfj
        clear hfj
        have hg6 : gds f j 0 ≤ j := gds_le f j 0
        go_wp2_with fail
        go_roundw
        case rel =>
          refine ⟨j + 1, D, by omega, by go_num, ?_, HR.out.1, HR.out.2.1, ?_, HR.out.2.2.2.1, HR.out.2.2.2.2.1, HR.out.2.2.2.2.2.1, HR.out.2.2.2.2.2.2⟩
          · have q := HGl.out
            rw [if_neg (by rw [Nat.zero_add, HFJ.out]; simp)] at q
            rw [q]
            go_num
          · intro x
            rw [HR.out.2.2.1 x]
            by_cases c : x = 9 + j
            · rw [decide_eq_false (by omega), decide_eq_true (by omega), c, show 9 + j - 9 = j by omega, HFJ.out]; rfl
            · congr 1
              rw [decide_eq_decide]
              omega
        case measure => simp [intOf]; omega
    · obtain rfl : j = 6 := by omega
      have HRZ := Lib.hid (show ∀ x, D.bad x = (decide (9 ≤ x ∧ x < 15) && f (x - 9)) from HR.out.2.2.1)
      have ij : ¬ ((6 : Int) < 6) := by omega
      obtain ⟨gd, hgd⟩ : ∃ gd, gd = gds f 6 0 := ⟨_, rfl⟩
      have HGD := Lib.hid hgd
      rw [← hgd]
      clear hgd
      obtain ⟨L, hL⟩ : ∃ L : Nat, L = n % 9 := ⟨_, rfl⟩
      have HLL := Lib.hid (show L ≤ 8 by omega)
      have hL2 : (n : Int) % 9 = (L : Int) := by omega
      clear hL
      go_wp2_with fail
      go_loopw [60] (fun k wr => ∃ (i : Nat) (D' : DevS) (B' : BkS), i ≤ L ∧ k = .int .i64 i ∧ CI D' B' f gd i ∧ DevIs wr a D' ∧ BkIs wr q a p06 B' (64 * i) ∧ Gr [] w wr ∧ Bd D' (90 + 1400 * i)) (fun k _ => L - (intOf k).toNat)
      case atStart =>
        refine ⟨0, D, ⟨0, fun _ => none⟩, by omega, rfl, ⟨HR.out.1.calm, HR.out.2.1, fun k hk => ?_, fun k hk _ x hx => HR.out.1.med _, fun j _ _ => ⟨rfl, fun x _ => HR.out.1.med _⟩, by show 0 ≤ 6; omega, ?_⟩, HR.out.2.2.2.1, HR.out.2.2.2.2.1, HR.out.2.2.2.2.2.1, HR.out.2.2.2.2.2.2⟩
        · rw [HRZ.out, decide_eq_true (by omega), show 9 + k - 9 = k by omega]; rfl
        · show gds f 6 0 = gd - 0
          rw [HGD.out]; rfl
      case round =>
        obtain ⟨i, D', B', hi, rfl, r1, r2, r3, r4, r5⟩ := hrel
        have HQ := Lib.hid (And.intro r1 (And.intro r2 (And.intro r3 (And.intro r4 r5))))
        clear r1 r2 r3 r4 r5
        by_cases hiL : i < L
        · have ij2 : (i : Int) < (L : Int) := by omega
          have hi8 : i < 8 := by have := HLL.out; omega
          have HBr := Lib.hid (break_in a D' (1 + i) wr HQ.out.2.1 (by rw [HQ.out.1.n]; omega))
          rw [show ((1 + i : Nat) : Int) = 1 + (i : Int) by omega] at HBr
          go_wp2_with fail
          refine HBr.out.mono ?_
          rintro e w6 ⟨rfl, d6, g6⟩
          have g6a : Gr a.all wr w6 := g6.mono (fun b hb => by simp at hb; subst hb; simp [DevA.all])
          obtain ⟨D6, hD6⟩ : ∃ D6 : DevS, D6 = { D' with bad := fun x => if x = 1 + i then true else D'.bad x } := ⟨_, rfl⟩
          rw [← hD6] at d6
          have hci : CI D6 B' f gd i := by
            rw [hD6]
            have h := HQ.out.1
            exact ⟨⟨h.calm.off, h.calm.fuse, h.calm.buf⟩, h.n, fun k hk => by show (if 9 + k = 1 + i then true else D'.bad (9 + k)) = _; rw [if_neg (by omega)]; exact h.bs k hk, h.sp0, h.ln0, h.us, h.cn⟩
          have hbi : D6.bad (1 + i) = true := by rw [hD6]; show (if 1 + i = 1 + i then true else D'.bad (1 + i)) = true; rw [if_pos rfl]
          have hbd : Bd D6 (90 + 1400 * i) := by rw [hD6]; exact HQ.out.2.2.2.2
          have H6 := Lib.hid (And.intro hci (And.intro hbi (And.intro hbd (And.intro d6 (And.intro (HQ.out.2.2.1.grD g6a) (HN.out _ _ HQ.out.2.2.2.1 g6a))))))
          clear d6 g6 g6a HBr hci hbi hbd hD6
          go_wp2_with fail
          obtain ⟨lf1, lf2⟩ := let_facts i hi8
          have HFu := Lib.hid (fun W => full05 (Utf8.encode (97 + (i : Int))) W (by omega))
          have HSM := Lib.hid (fullS_max (Utf8.encode (97 + (i : Int))))
          have HSZ := Lib.hid (fullS_size (Utf8.encode (97 + (i : Int))))
          obtain ⟨S, hS⟩ : ∃ S, S = fullS (Utf8.encode (97 + (i : Int))) := ⟨_, rfl⟩
          rw [← hS] at HFu HSM HSZ lf2
          have HFe := Lib.hid (fun W => full05 ⟨#[]⟩ W (by show 0 ≤ _; omega))
          obtain ⟨E, B2, q1, q2, q3, q4⟩ := round_c H6.out.1 hi8 H6.out.2.1 HSZ.out lf2
          obtain ⟨Z, hZ⟩ : ∃ Z, Z = fullS ⟨#[]⟩ := ⟨_, rfl⟩
          rw [← hZ] at HFe q4
          clear hZ hS lf1 lf2
          have HQ2 := Lib.hid (And.intro q2 q4)
          have HEq := Lib.hid q1
          clear q1 q2 q3 q4
          go_wp2_with fail
          refine (HFu.out _).mono ?_
          rintro e w7 ⟨rfl, g7⟩
          have HW7 := Lib.hid (bwrite_any (i : Int) S (m := 64 * i) (H6.out.2.2.2.2.1.gr0 g7) (H6.out.2.2.2.1.gr0 g7) H6.out.2.2.1 (by omega) HSM.out (by omega))
          rw [HEq.out] at HW7
          have HG7 := Lib.hid (H6.out.2.2.2.2.2.trans g7)
          clear g7 HEq
          by_cases hg : gd ≤ i
          · have hgI : (gd : Int) ≤ (i : Int) := by omega
            rw [if_pos hg] at HW7 HQ2
            clear hg
            go_wp2_with fail
            refine HW7.out.mono ?_
            rintro e w8 ⟨rfl, d8, b8, k8, g8⟩
            have H8 := Lib.hid (And.intro d8 (And.intro b8 (And.intro k8 (HNQ.out _ _ HG7.out g8))))
            clear d8 b8 k8 g8 HW7
            go_wp2_with fail
            refine (HFu.out _).mono ?_
            rintro e w9 ⟨rfl, g9⟩
            have HG9 := Lib.hid g9
            clear g9
            go_wp2_with fail
            refine (HFe.out _).mono ?_
            rintro e w10 ⟨rfl, g10⟩
            have HG10 := Lib.hid (HG9.out.trans g10)
            clear g10
            have HRd := Lib.hid (read_any (i : Int) (H8.out.2.2.1.gr0 HG10.out) (H8.out.1.gr0 HG10.out) (by rw [HQ2.out.1.n]; decide))
            rw [HQ2.out.2] at HRd
            go_wp2_with fail
            refine HRd.out.mono ?_
            rintro e w11 ⟨rfl, g11⟩
            have HG11 := Lib.hid (HG10.out.trans g11)
            clear g11 HRd
            go_wp2_with fail
            go_roundw
            case rel => exact ⟨i + 1, E, B2, by omega, by go_num, HQ2.out.1, H8.out.1.gr0 HG11.out, (H8.out.2.2.1.gr0 HG11.out).moreN _ (by omega), H8.out.2.2.2.trans HG11.out, H8.out.2.1.mono (by omega)⟩
            case measure => simp [intOf]; omega
          · have hgI : ¬ ((gd : Int) ≤ (i : Int)) := by omega
            rw [if_neg hg] at HW7 HQ2
            clear hg
            go_wp2_with fail
            refine HW7.out.mono ?_
            rintro e w8 ⟨rfl, d8, b8, k8, g8⟩
            have H8 := Lib.hid (And.intro d8 (And.intro b8 (And.intro k8 (HNQ.out _ _ HG7.out g8))))
            clear d8 b8 k8 g8 HW7
            go_wp2_with fail
            refine (HFu.out _).mono ?_
            rintro e w9 ⟨rfl, g9⟩
            have HG9 := Lib.hid g9
            clear g9
            have HRd := Lib.hid (read_any (i : Int) (H8.out.2.2.1.gr0 HG9.out) (H8.out.1.gr0 HG9.out) (by rw [HQ2.out.1.n]; decide))
            rw [HQ2.out.2] at HRd
            go_wp2_with fail
            refine HRd.out.mono ?_
            rintro e w11 ⟨rfl, g11⟩
            have HG11 := Lib.hid (HG9.out.trans g11)
            clear g11 HRd
            go_wp2_with fail
            go_roundw
            case rel => exact ⟨i + 1, E, B2, by omega, by go_num, HQ2.out.1, H8.out.1.gr0 HG11.out, (H8.out.2.2.1.gr0 HG11.out).moreN _ (by omega), H8.out.2.2.2.trans HG11.out, H8.out.2.1.mono (by omega)⟩
            case measure => simp [intOf]; omega
        · obtain rfl : i = L := by omega
          have ij2 : ¬ ((i : Int) < (i : Int)) := by omega
          go_wp2_with fail
          go_ret
          exact ⟨rfl, HQ.out.2.2.2.1⟩
theorem walk_SpareCount (a0 a1 : Int) (w0 : (Lit.int .u8 a0).wf = true) (w1 : (Lit.int .u8 a1).wf = true) (w : World) :
    Calls Try.prog 5 #[.int .u8 a0, .int .u8 a1] w fun e w' => e = .returned (.bool true) ∧ Below w.heap.size w w' := by
  obtain ⟨p, rfl, hp⟩ := natU8 w0
  obtain ⟨q, rfl, hq⟩ := natU8 w1
  exact (count_law p q hp hq w).mono fun _ _ q => ⟨q.1, q.2.below0⟩
end Go.Proofs.Ytgifjnniohcacaa
