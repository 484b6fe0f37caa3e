/-
  HkBk: HtS, HtT.
-/
import Derived.Test.YtefmbchebobceaaGreatHkBj

set_option linter.unusedVariables false

/-
  Layer 10: what the law fixes.
-/
namespace Go.Proofs.YtefmbchebobceaaGreat
open Go.RowKit
set_option linter.unusedVariables false

def C10 : CfgZ := ⟨2, 16, 0, 3, 77⟩
theorem regS10 : regS C10 = 18 := by
  obtain ⟨_, h⟩ := regS_ok (C := C10) (by unfold okP C10; simp only; omega)
  rw [h]
  rfl
theorem ok10 : OkC C10 := ⟨by decide, by decide, by unfold okP C10; simp only; omega, by decide, by rw [regS10]; decide⟩
theorem size10 : sizeC C10 = 37 := by rw [ok10.size, regS10]; rfl
theorem pg10 : pgC C10 = 1 := by
  unfold pgC
  rw [if_neg (by rw [size10]; decide)]
  decide
theorem tb10 : tbC C10 = 1 := by unfold tbC; rw [pg10]
theorem pg10i : ((pgC C10 : Nat) : Int) = 1 := by rw [pg10]; rfl
theorem tb10i : ((tbC C10 : Nat) : Int) = 1 := by rw [tb10]; rfl
theorem free10 : freeC C10 = 2 := by unfold freeC; rw [pg10]; rfl
theorem frm10 : frmC C10 = 4 := by decide
theorem pos10 : 0 < pgC C10 := by rw [pg10]; omega
theorem fit10 : sizeC C10 ≤ ((37 : Nat) : Int) := by rw [size10]; omega
theorem cfg10 : cfgV C10 = .agg #[.int .i64 2, .int .i64 16, .int .i64 0, .int .i64 3, .int .u64 77] := rfl
def W10 (n : Nat) : Nat := if n ≤ 3 then n else n - 3
def J10 (n : Nat) : Nat := if n ≤ 3 then 0 else 1
structure Wk10 (n : Nat) (V : FlV) (c : Nat → Nat) (S : HtS) : Prop where
  or : (n ≤ 6 ∧ S.ht 0 = W10 n ∧ S.fr 0 = 1 ∧ V.J 0 = J10 n ∧ V.J 1 = 0 ∧ c 0 = W10 n) ∨ 1 ≤ S.mv 0
theorem Wk10.step {n : Nat} {V V1 V2 : FlV} {c c1 : Nat → Nat} {S S1 : HtS} {F F1 : Nat → Nat → Nat} (hi : HtP C10 S) (h : Wk10 n V c S) (ha : Ahead C10 3 0 S F V c S1 F1 V1 c1) (hJ : V2.J = stJ10 C10 (qL C10 (8 * S1.fr 0 + 5)) V1.J c1) : Wk10 (n + 1) V2 (stC10 C10 (qL C10 (8 * S1.fr 0 + 5)) c1) (htS S1 0 (S1.ht 0 + 1)) := by
  have q13 : qL C10 (8 * 1 + 5) = 0 := by decide
  have q8 : qL C10 (8 * 1) = 0 := by decide
  have q16 : qL C10 (8 * 2) = 1 := by decide
  have hps : C10.psi = 3 := rfl
  refine ⟨?_⟩
  show (n + 1 ≤ 6 ∧ updN S1.ht 0 (S1.ht 0 + 1) 0 = W10 (n + 1) ∧ S1.fr 0 = 1 ∧ V2.J 0 = J10 (n + 1) ∧ V2.J 1 = 0 ∧ stC10 C10 (qL C10 (8 * S1.fr 0 + 5)) c1 0 = W10 (n + 1)) ∨ 1 ≤ S1.mv 0
  rw [updN_same, hJ]
  rcases h.or with ⟨h6, e1, e2, e3, e4, e5⟩ | hm
  · cases ha with
    | cold a1 a2 a3 a4 a5 =>
      subst a2
      subst a5
      rw [a4, e2, q13]
      unfold stJ10 stC10
      rw [updN_same, updN_same, updN_other _ _ (by decide), hps, e1, e3, e4, e5]
      left
      unfold W10 J10 at *
      rw [e1] at a1
      have : n < 6 := by split at a1 <;> omega
      have h3 : n ≠ 3 := by intro e; subst e; simp at a1
      refine ⟨by omega, ?_, rfl, ?_, rfl, ?_⟩
      · split <;> split <;> omega
      · by_cases c3 : n ≤ 3
        · rw [if_pos c3, if_pos c3, if_neg (by omega), if_pos (by omega)]
        · rw [if_neg c3, if_neg c3, if_neg (by omega), if_neg (by omega)]
      · by_cases c3 : n ≤ 3
        · rw [if_pos c3, if_neg (by omega), if_pos (by omega)]
        · rw [if_neg c3, if_neg (by omega), if_neg (by omega)]; omega
    | hot S0 a1 a2 a3 =>
      have hn : n = 3 ∨ n = 6 := by rw [e1] at a1; unfold W10 at a1; split at a1 <;> omega
      cases a2 with
      | stay b1 b2 b3 b4 b5 =>
        rcases hn with rfl | rfl
        · subst a3
          subst b1
          subst b4
          left
          show 3 + 1 ≤ 6 ∧ updN S0.ht 0 0 0 + 1 = W10 4 ∧ S0.fr 0 = 1 ∧ stJ10 C10 (qL C10 (8 * S0.fr 0 + 5)) V1.J c1 0 = J10 4 ∧ stJ10 C10 (qL C10 (8 * S0.fr 0 + 5)) V1.J c1 1 = 0 ∧ stC10 C10 (qL C10 (8 * S0.fr 0 + 5)) c1 0 = W10 4
          rw [updN_same, b3, e2, q13]
          unfold stJ10 stC10
          rw [updN_same, updN_same, updN_other _ _ (by decide), hps, e3, e4, e5]
          exact ⟨by omega, rfl, rfl, rfl, rfl, rfl⟩
        · exfalso
          have ht : S.tk 2 = false := by
            cases e : S.tk 2 with
            | false => rfl
            | true =>
              rcases (hi.tk 2 (by rw [frm10]; omega)).1 e with q | ⟨g, hg, q⟩
              · rw [tb10] at q; omega
              · rw [pg10] at hg
                obtain rfl : g = 0 := by omega
                omega
          have := b5 2 (by rw [frm10]; omega) ht
          rw [e2, q8, q16, e3, e4] at this
          exact absurd this (by decide)
      | moved q b1 b2 b3 b4 b5 =>
        right
        rw [a3, b1]
        show 1 ≤ updN S.mv 0 (S.mv 0 + 1) 0
        rw [updN_same]
        omega
  · right
    cases ha with
    | cold a1 a2 a3 a4 a5 => rw [a2]; exact hm
    | hot S0 a1 a2 a3 =>
      rw [a3]
      show 1 ≤ S0.mv 0
      cases a2 with
      | stay b1 b2 b3 b4 b5 => rw [b1]; exact hm
      | moved q b1 b2 b3 b4 b5 =>
        rw [b1]
        show 1 ≤ updN S.mv 0 (S.mv 0 + 1) 0
        rw [updN_same]
        omega
set_option maxRecDepth 100000 in
set_option maxHeartbeats 16000000 in
theorem wakes10 (w : World) : Calls Tryz.prog 13 #[] w fun e w' => e = .returned (.bool true) ∧ Gr [] w w' := by
  have HFx := Lib.hid (fun W => full10 ⟨#[120]⟩ W (by show 1 ≤ _; omega))
  obtain ⟨X, hX⟩ : ∃ A, A = fullS ⟨#[120]⟩ := ⟨_, rfl⟩
  have HX := Lib.hid (show X.size = 64 by rw [hX]; exact fullS_size _)
  rw [← hX] at HFx
  have HCt := Lib.hid (fun W => show Calls Tryz.prog 36 #[.agg #[.int .i64 2, .int .i64 16, .int .i64 0, .int .i64 3, .int .u64 77]] W (fun e w' => e = .returned (.tuple #[.int .i64 1, .int .i64 1, .int .i64 2]) ∧ Gr [] W w') from by
    have := hcount_any C10 ok10.wf.1 W
    rw [pg10i, tb10i, free10] at this
    exact this)
  have HSz := Lib.hid (fun W => show Calls Tryz.prog 43 #[.agg #[.int .i64 2, .int .i64 16, .int .i64 0, .int .i64 3, .int .u64 77]] W (fun e w' => e = .returned (.int .i64 37) ∧ Gr [] W w') from by
    have := csize_any C10 ok10.wf.1 W
    rw [size10] at this
    exact this)
  have HMk := Lib.hid (fun W a (d : DevIs W a (newD 37)) => hmake_new (C := C10) (n := 37) ok10 pos10 fit10 d)
  rw [cfg10] at HMk
  have HH := Lib.hid (Holds.new w #[.int .i64 2, .int .i64 16, .int .i64 0, .int .i64 3, .int .u64 77] 39)
  have HG0 := Lib.hid ((Gr.refl [] w).alloc (Obj.cells #[.int .i64 2, .int .i64 16, .int .i64 0, .int .i64 3, .int .u64 77] 39))
  clear hX
  go_enter Tryz.func13, Tryz.ntmps13
  go_upto_region 2 with fail
  generalize (w.alloc (Obj.cells #[.int .i64 2, .int .i64 16, .int .i64 0, .int .i64 3, .int .u64 77] 39)) = w1 at *
  obtain ⟨pb, hpb⟩ : ∃ pb, w.heap.size = pb := ⟨_, rfl⟩
  rw [hpb] at HH ⊢
  clear hpb
  have c0 := HH.out.cell 0
  have c1 := HH.out.cell 1
  have c2 := HH.out.cell 2
  have c3 := HH.out.cell 3
  have c4 := HH.out.cell 4
  go_wp2_with fail
  refine (HCt.out _).mono ?_
  rintro e w2 ⟨rfl, g2⟩
  have H2 := Lib.hid (And.intro (HH.out.gr0 g2) (HG0.out.trans g2))
  clear c0 c1 c2 c3 c4 g2 HCt HH HG0
  have c0 := H2.out.1.cell 0
  have c1 := H2.out.1.cell 1
  have c2 := H2.out.1.cell 2
  have c3 := H2.out.1.cell 3
  have c4 := H2.out.1.cell 4
  go_wp2_with fail
  refine (HSz.out _).mono ?_
  rintro e w3 ⟨rfl, g3⟩
  have H3 := Lib.hid (And.intro (H2.out.1.gr0 g3) (H2.out.2.trans g3))
  clear c0 c1 c2 c3 c4 g3 HSz H2
  go_wp2_with fail
  refine (pmnew_yes 37 _ (by omega) (by omega)).mono ?_
  rintro e w4 ⟨a, rfl, d4, hlo, g4⟩
  have HLO := Lib.hid (show ∀ x ∈ a.all, w.heap.size ≤ x from fun x hx => Nat.le_trans H3.out.2.size (hlo x hx))
  have H4 := Lib.hid (And.intro d4 (And.intro (H3.out.1.gr0 g4) (H3.out.2.trans g4)))
  have c0 := H4.out.2.1.cell 0
  have c1 := H4.out.2.1.cell 1
  have c2 := H4.out.2.1.cell 2
  have c3 := H4.out.2.1.cell 3
  have c4 := H4.out.2.1.cell 4
  clear d4 g4 hlo H3
  go_wp2_with fail
  with_reducible refine (HMk.out _ a H4.out.1).mono ?_
  rintro e w5 ⟨V, D, B, j, rfl, d5, f5, j5, g5⟩
  have H5 := Lib.hid (And.intro d5 (And.intro f5 (And.intro j5 (H4.out.2.2.nextN g5 fun x hx => .inr (HLO.out x hx)))))
  clear d5 f5 j5 g5 c0 c1 c2 c3 c4 H4 HMk
  go_wp2_with fail
  refine (hopen_any (lim := 3) ok10 H5.out.2.1 H5.out.1 (by rw [pg10]; omega) pos10 (mkF_tb ok10 pos10) (fun _ _ => Nat.zero_le _) (by omega) (by omega)).mono ?_
  rintro e w6 ⟨Y, A, tk, rfl, h6, n6, g6⟩
  have HNA := Lib.hid (show ∀ x ∈ Y.all ++ (A.all (cR C10) ++ a.all), w.heap.size ≤ x from fun x hx => by
    rcases List.mem_append.1 hx with hx | hx
    · exact Nat.le_trans H5.out.2.2.2.size (n6 x (List.mem_append.2 (.inl hx)))
    · rcases List.mem_append.1 hx with hx | hx
      · exact Nat.le_trans H5.out.2.2.2.size (n6 x (List.mem_append.2 (.inr hx)))
      · exact HLO.out x hx)
  have hJ0 : V.J 0 = 0 ∧ V.J 1 = 0 := by
    rw [H5.out.2.2.1, pg10]
    exact ⟨by decide, by decide⟩
  have H6 := Lib.hid (And.intro h6 (And.intro (H5.out.2.2.2.trans g6) (show Wk10 0 V (fun _ => 0) ⟨fun g => tbC C10 + g, fun _ => 0, fun _ => 0, tk⟩ from ⟨.inl ⟨by omega, rfl, by show tbC C10 + 0 = 1; rw [tb10], hJ0.1, hJ0.2, rfl⟩⟩)))
  clear h6 n6 g6 hJ0 H5
  go_wp2_with fail
  go_loopw [55] (fun iv wr => ∃ (n : Nat) (F : Nat → Nat → Nat) (V : FlV) (c : Nat → Nat) (S : HtS), iv = .int .i64 (n : Int) ∧ n ≤ 20 ∧ Hid (HtIs wr Y A a C10 F V c (204200 + 42000 * n) 3 S ∧ Wk10 n V c S ∧ (1 ≤ n → ∀ m, m < 8 → F (8 * S.fr 0 + 5) m = wdL X.data.toList m) ∧ Gr [] w wr)) (fun iv _ => 20 - (intOf iv).toNat)
  case atStart => exact ⟨0, _, V, _, _, rfl, by omega, Lib.hid ⟨H6.out.1.more (by rw [pg10]; omega), H6.out.2.2, fun e => absurd e (by omega), H6.out.2.1⟩⟩
  case round =>
    clear H6
    obtain ⟨n, F, V, c, S, rfl, hn, HS⟩ := hrel
    by_cases hn20 : n < 20
    · as_aux_lemma =>
        have i1 : (n : Int) < 20 := by omega
        have HI := Lib.hid hn20
        go_wp2_with fail
        with_reducible refine (HFx.out _).mono ?_
        rintro e w7 ⟨rfl, g7⟩
        have H7 := Lib.hid (And.intro (HS.out.1.gr0 g7) (HS.out.2.2.2.trans g7))
        have HW := Lib.hid (hwrite_in H7.out.1 (by omega) (by omega) (by omega) 0 5 pos10 (by omega) X HX.out)
        clear g7
        go_wp2_with fail
        refine HW.out.mono ?_
        rintro e w8 ⟨F1, V1, V2, c1, S1, rfl, a1, j1, h8, g8⟩
        have H8 := Lib.hid (show HtIs w8 Y A a C10 _ V2 _ (204200 + 42000 * (n + 1)) 3 _ ∧ Wk10 (n + 1) V2 _ _ ∧ (1 ≤ n + 1 → ∀ m, m < 8 → (fun l2 m => if l2 = 8 * S1.fr 0 + 5 then wdL X.data.toList m else F1 l2 m) (8 * (htS S1 0 (S1.ht 0 + 1)).fr 0 + 5) m = wdL X.data.toList m) ∧ Gr [] w w8 from ⟨h8.more (by omega), HS.out.2.1.step HS.out.1.inv a1 j1, fun _ m hm => if_pos rfl, H7.out.2.nextN g8 fun x hx => .inr (HNA.out x hx)⟩)
        clear a1 j1 h8 g8 HW H7
        go_wp2_with fail
        go_roundw
        case rel => exact ⟨n + 1, _, V2, _, _, by go_num, HI.out, H8⟩
        case measure => simp [intOf]; omega
    · obtain rfl : n = 20 := by omega
      have ij : ¬ ((20 : Nat) : Int) < 20 := by omega
      clear hn hn20
      have hm1 : 1 ≤ S.mv 0 := by
        rcases HS.out.2.1.or with ⟨q, _⟩ | q
        · omega
        · exact q
      have hf1 := (HS.out.1.inv.lt 0 pos10).2
      have hf5 : 8 * S.fr 0 + 5 < cR C10 * cL C10 := by have := pg_nums ok10 pos10; omega
      have HRd := Lib.hid (hread_in HS.out.1 0 5 pos10 (by omega))
      rw [lnF_is HS.out.1.fl.fl hf5 HX.out (fun k hk => HS.out.2.2.1 (by omega) k hk)] at HRd
      obtain ⟨mv, hmv⟩ : ∃ m, m = S.mv 0 := ⟨_, rfl⟩
      have HLn := Lib.hid (fun W (g : Gr [] wr W) => hlen_any (HS.out.1.gr0 g))
      rw [pg10i] at HLn
      have HMv := Lib.hid (fun W (g : Gr [] wr W) => hmoved_in (HS.out.1.gr0 g) 0 pos10 (by omega))
      rw [← hmv] at HMv hm1
      have hmp : (0 : Int) < (mv : Int) := by omega
      have hmd : decide (0 < mv) = true := decide_eq_true (by omega)
      clear hmv hf1 hf5
      go_wp2_with fail
      refine HRd.out.mono ?_
      rintro e w7 ⟨rfl, g7⟩
      have H7 := Lib.hid g7
      clear g7 HRd
      go_wp2_with fail
      with_reducible refine (HFx.out _).mono ?_
      rintro e w8 ⟨rfl, g8⟩
      have H8 := Lib.hid (H7.out.trans g8)
      clear g8 H7
      go_wp2_with fail
      refine (HLn.out _ H8.out).mono ?_
      rintro e w9 ⟨rfl, rfl⟩
      go_wp2_with fail
      refine (HMv.out _ H8.out).mono ?_
      rintro e w10 ⟨rfl, rfl⟩
      go_wp2_with fail
      go_ret
      exact ⟨rfl, HS.out.2.2.2.trans H8.out⟩
end Go.Proofs.YtefmbchebobceaaGreat

/-
  HotCounts.
-/
namespace Go.Proofs.YtefmbchebobceaaGreat
open Go.RowKit
set_option linter.unusedVariables false

def cfgT (R L P : Nat) : CfgZ := ⟨(R : Int), (8 * L : Nat), 0, (P : Int), 0⟩
theorem cfgT_nums {R L P : Nat} (hR : 1 ≤ R ∧ R ≤ 16) (hL : 1 ≤ L ∧ L ≤ 128) (hP : 1 ≤ P ∧ P ≤ 999) : wfC (cfgT R L P) ∧ pgC (cfgT R L P) = pgN (R * L - R) (R * L - R) := by
  have hl : (cfgT R L P).l = ((8 * L : Nat) : Int) := rfl
  have hr : (cfgT R L P).r = (R : Int) := rfl
  have hok : okP (cfgT R L P) := by
    refine ⟨?_, ?_, ?_, ?_, ?_, ?_⟩
    · rw [hl]; omega
    · rw [hl]; omega
    · show (0 : Int) ≤ 0; omega
    · show (0 : Int) ≤ 64; omega
    · show (1 : Int) ≤ (P : Int); omega
    · show (P : Int) ≤ 65535; omega
  have hs : ¬ sizeC (cfgT R L P) = 0 := by
    unfold sizeC
    rw [if_pos ⟨by rw [hr]; omega, by rw [hr]; omega, hok⟩]
    have b := regS_b (cfgT R L P)
    have : 0 ≤ (cfgT R L P).r * regS (cfgT R L P) := Int.mul_nonneg (by rw [hr]; omega) b.1
    omega
  have h8 : (cfgT R L P).l % 8 = 0 := by rw [hl]; omega
  refine ⟨⟨⟨by rw [hl]; omega, by rw [hl]; omega⟩, ⟨by rw [hr]; omega, by rw [hr]; omega⟩⟩, ?_⟩
  obtain ⟨H, q1, q2, q3, q4⟩ := rest_in hs h8
  have e : H = R * L := by
    have e1 : ((8 * (R * L) : Nat) : Int) = ((8 * H : Nat) : Int) := by
      rw [← q1, hr, hl, Int.natCast_mul, Int.natCast_mul, Int.natCast_mul, ← Int.mul_assoc, ← Int.mul_assoc, Int.mul_comm (R : Int)]
    have := Int.ofNat.inj e1
    omega
  unfold pgC
  rw [if_neg (by rintro (x | x); exact hs x; exact x h8), q4, e]
  rfl
set_option maxRecDepth 100000 in
set_option maxHeartbeats 16000000 in
theorem fcounts_law (a b p : Nat) (ha : a ≤ 255) (hb : b ≤ 255) (hp : p ≤ 65535) (w : World) : Calls Tryz.prog 7 #[.int .u8 (a : Int), .int .u8 (b : Int), .int .u16 (p : Int)] w fun e w' => e = .returned (.bool true) ∧ Gr [] w w' := by
  obtain ⟨R, hR⟩ : ∃ R, R = 1 + a % 16 := ⟨_, rfl⟩
  obtain ⟨L, hL⟩ : ∃ L, L = 1 + b % 128 := ⟨_, rfl⟩
  obtain ⟨P, hP⟩ : ∃ P, P = 1 + p % 999 := ⟨_, rfl⟩
  obtain ⟨wf, hpg⟩ := cfgT_nums (R := R) (L := L) (P := P) (by omega) (by omega) (by omega)
  have hRL : R * L ≤ 16 * 128 := Nat.mul_le_mul (by omega) (by omega)
  have hRL1 : R * 1 ≤ R * L := Nat.mul_le_mul_left R (by omega)
  obtain ⟨G, hG⟩ : ∃ G, G = pgC (cfgT R L P) := ⟨_, rfl⟩
  have HCt := Lib.hid (fun W => hcount_any (cfgT R L P) wf W)
  have htb : tbC (cfgT R L P) = (G + 63) / 64 := by unfold tbC; rw [hG]
  have hfr : freeC (cfgT R L P) = if G = 0 then 0 else (R : Int) := by unfold freeC; rw [hG]; rfl
  rw [htb, hfr, ← hG] at HCt
  have hle : G ≤ R * L - R := by rw [hG, hpg]; exact pgN_le _ _
  have hmax : ∀ x, G < x → x ≤ R * L - R → ¬ (x + (x + 63) / 64 ≤ R * L - R) := fun x h1 h2 => pgN_max (R * L - R) (R * L - R) x (by rw [← hpg, ← hG]; exact h1) h2
  have hfit : 0 < G → G + (G + 63) / 64 ≤ R * L - R := fun h => by
    have := pgN_fit (R * L - R) (R * L - R) (by rw [← hpg, ← hG]; exact h)
    rw [← hpg, ← hG] at this
    exact this
  obtain ⟨H, hH⟩ : ∃ H, H = R * L := ⟨_, rfl⟩
  rw [← hH] at hle hmax hfit hRL hRL1
  obtain ⟨L8, hL8⟩ : ∃ x, x = 8 * L := ⟨_, rfl⟩
  obtain ⟨H8, hH8⟩ : ∃ x, x = 8 * H := ⟨_, rfl⟩
  have HCt := Lib.hid (fun W => show Calls Tryz.prog 36 #[.agg #[.int .i64 (R : Int), .int .i64 (L8 : Int), .int .i64 0, .int .i64 (P : Int), .int .u64 0]] W _ from by
    have := HCt.out W
    unfold cfgV cfgT at this
    rw [← hL8] at this
    exact this)
  obtain ⟨a6, ha6⟩ : ∃ x, x = a % 16 := ⟨_, rfl⟩
  obtain ⟨b6, hb6⟩ : ∃ x, x = b % 128 := ⟨_, rfl⟩
  obtain ⟨p6, hp6⟩ : ∃ x, x = p % 999 := ⟨_, rfl⟩
  have x1 : (a : Int).tmod 16 = (a6 : Int) := by rw [Int.tmod_eq_emod_of_nonneg (by omega)]; omega
  have x2 : IntKind.u8.wrap (a6 : Int) = (a6 : Int) := by rw [IntKind.wrap_u8]; omega
  have x3 : IntKind.i64.wrap (a6 : Int) = (a6 : Int) := IntWalk.i64_in _ (by omega)
  have x4 : IntKind.i64.wrap (1 + (a6 : Int)) = (R : Int) := by rw [show 1 + (a6 : Int) = (R : Int) by omega]; exact IntWalk.i64_in _ (by omega)
  have y1 : (b : Int).tmod 128 = (b6 : Int) := by rw [Int.tmod_eq_emod_of_nonneg (by omega)]; omega
  have y2 : IntKind.u8.wrap (b6 : Int) = (b6 : Int) := by rw [IntKind.wrap_u8]; omega
  have y3 : IntKind.i64.wrap (b6 : Int) = (b6 : Int) := IntWalk.i64_in _ (by omega)
  have y4 : IntKind.i64.wrap (1 + (b6 : Int)) = (L : Int) := by rw [show 1 + (b6 : Int) = (L : Int) by omega]; exact IntWalk.i64_in _ (by omega)
  have y5 : IntKind.i64.wrap (8 * (L : Int)) = (L8 : Int) := by rw [show 8 * (L : Int) = (L8 : Int) by omega]; exact IntWalk.i64_in _ (by omega)
  have z1 : (p : Int).tmod 999 = (p6 : Int) := by rw [Int.tmod_eq_emod_of_nonneg (by omega)]; omega
  have z2 : IntKind.u16.wrap (p6 : Int) = (p6 : Int) := by rw [IntKind.wrap_u16]; omega
  have z3 : IntKind.i64.wrap (p6 : Int) = (p6 : Int) := IntWalk.i64_in _ (by omega)
  have z4 : IntKind.i64.wrap (1 + (p6 : Int)) = (P : Int) := by rw [show 1 + (p6 : Int) = (P : Int) by omega]; exact IntWalk.i64_in _ (by omega)
  have hprod : R * L8 = H8 := by rw [hL8, hH8, hH, Nat.mul_left_comm]
  have m1 : IntKind.i64.wrap ((R : Int) * (L8 : Int)) = (H8 : Int) := by rw [← Int.natCast_mul, hprod]; exact IntWalk.i64_in _ (by omega)
  have m2 : (H8 : Int).tdiv 8 = (H : Int) := by rw [Int.tdiv_eq_ediv_of_nonneg (by omega)]; omega
  have m3 : IntKind.i64.wrap (H : Int) = (H : Int) := IntWalk.i64_in _ (by omega)
  have hR16 : 1 ≤ R ∧ R ≤ 16 := by omega
  have g0 := (Gr.refl [] w).alloc (Obj.cells #[.int .i64 (R : Int), .int .i64 (L8 : Int), .int .i64 0, .int .i64 (P : Int), .int .u64 0] 39)
  have hh := Holds.new w #[.int .i64 (R : Int), .int .i64 (L8 : Int), .int .i64 0, .int .i64 (P : Int), .int .u64 0] 39
  have H1 := Lib.hid (And.intro g0 hh)
  have HQ := Lib.hid (And.intro hle (And.intro hmax hfit))
  clear hprod hL8 hH8 hH hR hL hP wf hpg hG htb hfr hle hmax hfit g0 hh ha6 hb6 hp6
  go_enter Tryz.func7, Tryz.ntmps7
  go_upto_region 2 with fail
  generalize w.alloc (Obj.cells #[.int .i64 (R : Int), .int .i64 (L8 : Int), .int .i64 0, .int .i64 (P : Int), .int .u64 0] 39) = w1 at *
  obtain ⟨cb, hcb⟩ : ∃ x, w.heap.size = x := ⟨_, rfl⟩
  rw [hcb] at H1 ⊢
  clear hcb x1 x2 x3 x4 y1 y2 y3 y4 y5 z1 z2 z3 z4
  obtain ⟨c0, c1, c2, c3, c4⟩ := (show w1.cell? ⟨cb, 0, none⟩ = some (.int .i64 (R : Int)) ∧ w1.cell? ⟨cb, 1, none⟩ = some (.int .i64 (L8 : Int)) ∧ w1.cell? ⟨cb, 2, none⟩ = some (.int .i64 0) ∧ w1.cell? ⟨cb, 3, none⟩ = some (.int .i64 (P : Int)) ∧ w1.cell? ⟨cb, 4, none⟩ = some (.int .u64 0) from ⟨H1.out.2.cell 0, H1.out.2.cell 1, H1.out.2.cell 2, H1.out.2.cell 3, H1.out.2.cell 4⟩)
  by_cases hG0 : G = 0
  · subst hG0
    have HC0 := Lib.hid (show Calls Tryz.prog 36 #[.agg #[.int .i64 (R : Int), .int .i64 (L8 : Int), .int .i64 0, .int .i64 (P : Int), .int .u64 0]] w1 (fun e w' => e = .returned (.tuple #[.int .i64 0, .int .i64 0, .int .i64 0]) ∧ Gr [] w1 w') from HCt.out w1)
    have hlt : H < R + 2 := by
      refine Decidable.byContradiction fun hc => ?_
      have h1 := HQ.out.2.1 1 (by omega) (by omega)
      omega
    obtain ⟨R2, hR2⟩ : ∃ x, x = R + 2 := ⟨_, rfl⟩
    have w2' : IntKind.i64.wrap (2 + (R : Int)) = (R2 : Int) := by rw [show 2 + (R : Int) = (R2 : Int) by omega]; exact IntWalk.i64_in _ (by omega)
    have hl2 : (H : Int) < (R2 : Int) := by omega
    have hl3 : decide (H < R2) = true := decide_eq_true (by omega)
    clear hR2 hlt
    go_wp2_with fail
    refine HC0.out.mono ?_
    rintro e w2 ⟨rfl, g2⟩
    have H2 := Lib.hid (And.intro (H1.out.1.trans g2) (H1.out.2.gr0 g2))
    clear g2 c0 c1 c2 c3 c4 H1
    go_wp2_with fail
    refine (wakes10 _).mono ?_
    rintro e w3 ⟨rfl, g3⟩
    have H3 := Lib.hid (And.intro (H2.out.1.trans g3) (H2.out.2.gr0 g3))
    clear g3 H2
    have c0 := H3.out.2.cell 0
    go_wp2_with fail
    go_ret
    exact ⟨by first | rfl | simp [hl3], H3.out.1⟩
  · have hG1 : 0 < G := by omega
    have hf := HQ.out.2.2 hG1
    have hx : H < G + 1 + (G + 64) / 64 + R := by
      by_cases hc : G + 1 ≤ H - R
      · have h1 := HQ.out.2.1 (G + 1) (by omega) hc
        have e : (G + 1 + 63) / 64 = (G + 64) / 64 := by congr 1
        rw [e] at h1
        omega
      · omega
    obtain ⟨t, ht⟩ : ∃ x, x = (G + 63) / 64 := ⟨_, rfl⟩
    obtain ⟨u, hu⟩ : ∃ x, x = (G + 64) / 64 := ⟨_, rfl⟩
    obtain ⟨gt, hgt⟩ : ∃ x, x = G + t := ⟨_, rfl⟩
    obtain ⟨gtf, hgtf⟩ : ∃ x, x = gt + R := ⟨_, rfl⟩
    obtain ⟨g63, h63⟩ : ∃ x, x = G + 63 := ⟨_, rfl⟩
    obtain ⟨g1, hg1⟩ : ∃ x, x = G + 1 := ⟨_, rfl⟩
    obtain ⟨g64, h64⟩ : ∃ x, x = G + 64 := ⟨_, rfl⟩
    obtain ⟨gu, hgu⟩ : ∃ x, x = g1 + u := ⟨_, rfl⟩
    obtain ⟨guf, hguf⟩ : ∃ x, x = gu + R := ⟨_, rfl⟩
    have HC1 := Lib.hid (show Calls Tryz.prog 36 #[.agg #[.int .i64 (R : Int), .int .i64 (L8 : Int), .int .i64 0, .int .i64 (P : Int), .int .u64 0]] w1 (fun e w' => e = .returned (.tuple #[.int .i64 (G : Int), .int .i64 (t : Int), .int .i64 (R : Int)]) ∧ Gr [] w1 w') from by
      have := HCt.out w1
      rw [if_neg hG0, ← ht] at this
      exact this)
    have q1 : IntKind.i64.wrap ((G : Int) + (t : Int)) = (gt : Int) := by rw [show (G : Int) + (t : Int) = (gt : Int) by omega]; exact IntWalk.i64_in _ (by omega)
    have q2 : IntKind.i64.wrap ((gt : Int) + (R : Int)) = (gtf : Int) := by rw [show (gt : Int) + (R : Int) = (gtf : Int) by omega]; exact IntWalk.i64_in _ (by omega)
    have q3 : IntKind.i64.wrap ((G : Int) + 63) = (g63 : Int) := by rw [show (G : Int) + 63 = (g63 : Int) by omega]; exact IntWalk.i64_in _ (by omega)
    have q4 : (g63 : Int).tdiv 64 = (t : Int) := by rw [Int.tdiv_eq_ediv_of_nonneg (by omega)]; omega
    have q5 : IntKind.i64.wrap (t : Int) = (t : Int) := IntWalk.i64_in _ (by omega)
    have q6 : IntKind.i64.wrap ((G : Int) + 1) = (g1 : Int) := by rw [show (G : Int) + 1 = (g1 : Int) by omega]; exact IntWalk.i64_in _ (by omega)
    have q7 : IntKind.i64.wrap ((G : Int) + 64) = (g64 : Int) := by rw [show (G : Int) + 64 = (g64 : Int) by omega]; exact IntWalk.i64_in _ (by omega)
    have q8 : (g64 : Int).tdiv 64 = (u : Int) := by rw [Int.tdiv_eq_ediv_of_nonneg (by omega)]; omega
    have q9 : IntKind.i64.wrap (u : Int) = (u : Int) := IntWalk.i64_in _ (by omega)
    have qa : IntKind.i64.wrap ((g1 : Int) + (u : Int)) = (gu : Int) := by rw [show (g1 : Int) + (u : Int) = (gu : Int) by omega]; exact IntWalk.i64_in _ (by omega)
    have qb : IntKind.i64.wrap ((gu : Int) + (R : Int)) = (guf : Int) := by rw [show (gu : Int) + (R : Int) = (guf : Int) by omega]; exact IntWalk.i64_in _ (by omega)
    have qc : (gtf : Int) ≤ (H : Int) := by omega
    have qd : (H : Int) < (guf : Int) := by omega
    have qe : decide (gtf ≤ H) = true := decide_eq_true (by omega)
    have qf : decide (H < guf) = true := decide_eq_true (by omega)
    have hG0b : ((G : Int) == 0) = false := by simp; omega
    clear ht hu hgt hgtf h63 hg1 h64 hgu hguf hf hx hG1
    go_wp2_with fail
    refine HC1.out.mono ?_
    rintro e w2 ⟨rfl, g2⟩
    have H2 := Lib.hid (And.intro (H1.out.1.trans g2) (H1.out.2.gr0 g2))
    clear g2 c0 c1 c2 c3 c4 H1
    go_wp2_with fail
    refine (wakes10 _).mono ?_
    rintro e w3 ⟨rfl, g3⟩
    have H3 := Lib.hid (And.intro (H2.out.1.trans g3) (H2.out.2.gr0 g3))
    clear g3 H2
    have c0 := H3.out.2.cell 0
    go_wp2_with fail
    go_ret
    exact ⟨by first | rfl | simp [qe, qf] | simp, H3.out.1⟩
theorem walk_HotCounts (a0 a1 a2 : Int) (w0 : (Lit.int .u8 a0).wf = true) (w1 : (Lit.int .u8 a1).wf = true) (w2 : (Lit.int .u16 a2).wf = true) (w : World) :
    Calls Tryz.prog 7 #[.int .u8 a0, .int .u8 a1, .int .u16 a2] w fun e w' => e = .returned (.bool true) ∧ Below w.heap.size w w' := by
  have h0 := bounds_u8 w0
  have h1 := bounds_u8 w1
  have h2 := bounds_u16 w2
  obtain ⟨a, rfl⟩ : ∃ n : Nat, a0 = (n : Int) := ⟨a0.toNat, by omega⟩
  obtain ⟨b, rfl⟩ : ∃ n : Nat, a1 = (n : Int) := ⟨a1.toNat, by omega⟩
  obtain ⟨p, rfl⟩ : ∃ n : Nat, a2 = (n : Int) := ⟨a2.toNat, by omega⟩
  exact (fcounts_law a b p (by omega) (by omega) (by omega) w).mono fun _ _ q => ⟨q.1, q.2.below0⟩
end Go.Proofs.YtefmbchebobceaaGreat
