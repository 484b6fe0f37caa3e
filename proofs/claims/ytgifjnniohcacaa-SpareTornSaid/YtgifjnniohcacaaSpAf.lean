/-
  SpareTorn.
-/
import Derived.Test.YtgifjnniohcacaaMgQ
import Derived.Test.YtgifjnniohcacaaSpZ
import Derived.Test.YtgifjnniohcacaaSpR
import Derived.Test.YtgifjnniohcacaaLnJ
import Derived.Test.YtgifjnniohcacaaRegT
import Derived.Test.YtgifjnniohcacaaSpW
import Derived.Test.YtgifjnniohcacaaMgV
import Derived.Deep.CutBlock
namespace Go.Proofs.Ytgifjnniohcacaa
open Go.RowKit
set_option linter.unusedVariables false

theorem WrL.mono {p : PlanZ} {i : Int} {l0 : Nat} {s : ByteArray} {D E : DevS} {B B' : BkS} {C C' : (Nat → Nat) → Prop} {e : Int} (h : WrL p i l0 s D B C e E B') (hC : ∀ F, C F → C' F) : WrL p i l0 s D B C' e E B' := by
  unfold WrL at h ⊢
  rcases h with h | h | ⟨a1, a2, a3, a4, a5⟩
  · exact .inl h
  · exact .inr (.inl h)
  · exact .inr (.inr ⟨a1, a2, a3, a4, fun L kp hL => by
      obtain ⟨B3, z⟩ := a5 L kp hL
      exact ⟨B3, z.imp hC⟩⟩)
/-- What a line may have: words of both in the first turn, one of both in the second. -/
def CR (r : Nat) (A I : ByteArray) (F : Nat → Nat) : Prop := (r = 0 → Mix2 (wdL A.data.toList) (wdL I.data.toList) F) ∧ (r = 1 → One2 (wdL A.data.toList) (wdL I.data.toList) F)
theorem mix2_congr {a b c d F : Nat → Nat} (h : Mix2 a b F) (h1 : ∀ k, k < 8 → a k = c k) (h2 : ∀ k, k < 8 → b k = d k) : Mix2 c d F := fun k hk => by
  rw [← h1 k hk, ← h2 k hk]; exact h k hk
theorem one2_congr {a b c d F : Nat → Nat} (h : One2 a b F) (h1 : ∀ k, k < 8 → a k = c k) (h2 : ∀ k, k < 8 → b k = d k) : One2 c d F :=
  h.elim (fun q => .inl fun k hk => by rw [← h1 k hk]; exact q k hk) (fun q => .inr fun k hk => by rw [← h2 k hk]; exact q k hk)
/-- The state behind Format and the two writes. -/
theorem ts_made {D0 : DevS} {A T : ByteArray} (hz : Zero D0) (hn : D0.n = 12) (hb : D0.bad = fun _ => false) (hA : A.size = 64) (hT : T.size = 64) :
    ∃ D1 D2, writeS pT 0 A D0 B0 = (0, D1, B0) ∧ writeS pT 1 T D1 B0 = (0, D2, B0) ∧ D1.n = 12 ∧ Calm D2 ∧ D2.bad = (fun _ => false) ∧ TS D2 A T := by
  have ti0 : TI pT D0 B0 := TI.zero (by decide) hz (by rw [hn]; decide) hb
  obtain ⟨D1, e1, s1⟩ := write_ok (p := pT) (B := B0) (l := 2) (i := 0) hz.calm (by decide) (by decide) (by rw [hn]; omega) (by rw [hb]) hA
  obtain ⟨D2, e2, s2⟩ := write_ok (p := pT) (B := B0) (l := 3) (i := 1) s1.calm (by decide) (by decide) (by rw [s1.n, hn]; omega) (by rw [s1.bad, hb]) hT
  have b2 : D2.bad = fun _ => false := by rw [s2.bad, s1.bad, hb]
  have ti2 : TI pT D2 B0 := ti0.keep s2.calm (by rw [s2.n, s1.n]) (fun x hx => by
    have hx2 : (x : Int) < 8 * ((1 : Int) + (5 + 7) / 8) := hx
    rw [s2.med, if_neg (by omega), s1.med, if_neg (by omega)]) (by decide) (fun l _ _ => by rw [b2])
  refine ⟨D1, D2, e1, e2, by rw [s1.n, hn], s2.calm, b2, ⟨⟨s2.calm.off, s2.calm.buf⟩, by rw [s2.n, s1.n, hn], ti2.congr (by decide) (bare_calm D2) rfl rfl rfl, fun k hk => ?_, fun k hk => ?_, fun k hk => ?_⟩⟩
  · rw [s2.med, if_neg (by omega), s1.med, if_pos ⟨by omega, by omega, by rw [hb]⟩]
    congr 1
    omega
  · rw [s2.med, if_pos ⟨by omega, by omega, by rw [s1.bad, hb]⟩]
    congr 1
    omega
  · rw [s2.med, if_neg (by omega), s1.med, if_neg (by omega)]
    exact hz.med _
/-- Lines that aren't the table's break, and a fuse is set. -/
theorem TS.broke {D E : DevS} {A T : ByteArray} (h : TS D A T) (hn : E.n = D.n) (ho : E.off = false) (hbf : E.buf = D.buf) (hm : E.med = D.med) (hb : E.bad 1 = false) : TS E A T := by
  refine ⟨⟨ho, by rw [hbf]; exact h.live.buf⟩, hn.trans h.n, h.ti.keep (bare_calm E) hn (fun x _ => by show E.med x = D.med x; rw [hm]) (by decide) (fun l q1 q2 => ?_), by rw [hm]; exact h.l0, by rw [hm]; exact h.l1, by rw [hm]; exact h.l2⟩
  have q1' : (1 : Int) ≤ (l : Int) := q1
  have q2' : (l : Int) < 1 + (5 + 7) / 8 := q2
  obtain rfl : l = 1 := by omega
  exact hb
set_option maxRecDepth 100000 in
set_option maxHeartbeats 40000000 in
theorem torn5_law (v : Value) (xs : List Int) (s t : ByteArray) (p q r3 : Nat) {w : World} (hv : SlI .u8 w v xs) (hx : ∀ x ∈ xs, 0 ≤ x ∧ x ≤ 255) (hp : p < 256) (hq : q < 256) (hs2 : s.size ≤ 4611686018427387904) (ht2 : t.size ≤ 4611686018427387904) :
    Calls Try.prog 4 #[v, .agg #[.string s, .string t], .agg #[.int .u8 (p : Int), .int .u8 (q : Int), .int .u8 (r3 : Int)]] w fun e w' => e = .returned (.bool true) ∧ Gr [] w w' := by
  obtain ⟨i0, hi, hz0, hz1, hz2⟩ := info_parts infoB
  have HIN := Lib.hid (And.intro hi (And.intro hz0 (And.intro hz1 hz2)))
  have HFS := Lib.hid (fun W => full05 s W hs2)
  have HFT := Lib.hid (fun W => full05 t W ht2)
  have HFb := Lib.hid (fun W => full05 ⟨#[98]⟩ W (by show 1 ≤ _; omega))
  have HF0 := Lib.hid (fun W => full05 ⟨#[]⟩ W (by show 0 ≤ _; omega))
  obtain ⟨A, hA⟩ : ∃ A, A = fullS s := ⟨_, rfl⟩
  obtain ⟨I0, hI⟩ : ∃ I0, I0 = fullS t := ⟨_, rfl⟩
  obtain ⟨T, hT⟩ : ∃ T, T = fullS ⟨#[98]⟩ := ⟨_, rfl⟩
  obtain ⟨Z, hZ⟩ : ∃ Z, Z = fullS ⟨#[]⟩ := ⟨_, rfl⟩
  have HA := Lib.hid (show A.size = 64 by rw [hA]; exact fullS_size _)
  have HI0 := Lib.hid (show I0.size = 64 by rw [hI]; exact fullS_size _)
  have HT := Lib.hid (show T.size = 64 by rw [hT]; exact fullS_size _)
  have HZ := Lib.hid (show Z = fullS ⟨#[]⟩ from hZ)
  rw [← hA] at HFS
  rw [← hI] at HFT
  rw [← hT] at HFb
  rw [← hZ] at HF0
  have HML := Lib.hid (show (64 : Nat) ≤ maxLen by unfold maxLen; omega)
  have HV := Lib.hid hv
  have HX := Lib.hid hx
  have HPQ := Lib.hid (And.intro hp hq)
  clear hi hz0 hz1 hz2 hA hI hT hZ hs2 ht2 hv hx hp hq
  have HHA := Lib.hid (((Holds.new w #[.string s, .string t] 50).gr0 ((Gr.refl [] _).alloc (Obj.cells #[.int .u8 (p : Int), .int .u8 (q : Int), .int .u8 (r3 : Int)] 51))).gr0 ((Gr.refl [] _).alloc (Obj.cells #[.int .i64 1, .int .i64 3, .int .i64 5] 28)))
  have HHC := Lib.hid ((Holds.new (w.alloc (Obj.cells #[.string s, .string t] 50)) #[.int .u8 (p : Int), .int .u8 (q : Int), .int .u8 (r3 : Int)] 51).gr0 ((Gr.refl [] _).alloc (Obj.cells #[.int .i64 1, .int .i64 3, .int .i64 5] 28)))
  have HHP := Lib.hid (Holds.new ((w.alloc (Obj.cells #[.string s, .string t] 50)).alloc (Obj.cells #[.int .u8 (p : Int), .int .u8 (q : Int), .int .u8 (r3 : Int)] 51)) #[.int .i64 1, .int .i64 3, .int .i64 5] 28)
  have HGG := Lib.hid ((((Gr.refl [] w).alloc (Obj.cells #[.string s, .string t] 50)).alloc (Obj.cells #[.int .u8 (p : Int), .int .u8 (q : Int), .int .u8 (r3 : Int)] 51)).alloc (Obj.cells #[.int .i64 1, .int .i64 3, .int .i64 5] 28))
  go_enter Try.func4, Try.ntmps4
  go_upto_region 2 with fail
  generalize ((w.alloc (Obj.cells #[.string s, .string t] 50)).alloc (Obj.cells #[.int .u8 (p : Int), .int .u8 (q : Int), .int .u8 (r3 : Int)] 51)).alloc (Obj.cells #[.int .i64 1, .int .i64 3, .int .i64 5] 28) = w1 at *
  rw [World.size_alloc, World.size_alloc] at HHP
  rw [World.size_alloc] at HHC
  generalize w.heap.size = bA at *
  go_wp2_with fail
  go_loopw [28] (fun z wr => ∃ r : Nat, r ≤ 2 ∧ z = .int .i64 (r : Int) ∧ Gr [] w1 wr) (fun z _ => 2 - (intOf z).toNat)
  case atStart => exact ⟨0, by omega, rfl, Gr.refl _ _⟩
  case round =>
    obtain ⟨r, hr, rfl, g0⟩ := hrel
    by_cases hr2 : r < 2
    · have hdr : decide ((r : Int) < 2) = true := by simp; omega
      have ij : (r : Int) < 2 := by omega
      have HG0 := Lib.hid g0
      clear g0 hr
      have HR2 := Lib.hid hr2
      clear hr2
      go_wp2_with fail
      refine (pmnew_yes 12 _ (by omega) (by omega)).mono ?_
      rintro e w2 ⟨a, rfl, d2, hlo, g2⟩
      have HN := Lib.hid (show ∀ (wa wb : World), Gr [] w1 wa → Gr a.all wa wb → Gr [] w1 wb from fun wa wb p q => p.nextN q fun x hx => .inr (Nat.le_trans HG0.out.size (hlo x hx)))
      have HLO := Lib.hid (show ∀ x ∈ a.all, w1.heap.size ≤ x from fun x hx => Nat.le_trans HG0.out.size (hlo x hx))
      have H2 := Lib.hid (And.intro d2 (HG0.out.trans g2))
      clear d2 g2 hlo
      have c0 := (HHP.out.gr0 H2.out.2).cell 0
      have c1 := (HHP.out.gr0 H2.out.2).cell 1
      have c2 := (HHP.out.gr0 H2.out.2).cell 2
      have HFm := Lib.hid (show Calls Try.prog 14 #[.pointer (some ⟨a.bd, 0, none⟩), .agg #[.int .i64 1, .int .i64 3, .int .i64 5]] w2 _ from format_ok (p := pT) (c := 0) H2.out.1 (zero_new 12) ⟨Nat.le_refl _, fun l => ⟨Int.le_refl _, Int.le_refl _⟩⟩ (by omega) (by decide))
      obtain ⟨z3, n3, b3⟩ := fmt_zero (p := pT) (zero_new 12) (by decide) 4 (by decide)
      rw [show (tabZ pT + pT.l).toNat = 4 by decide] at HFm
      generalize fmtD pT 4 (newD 12) = D3 at *
      have HZ3 := Lib.hid (And.intro z3 (And.intro (show D3.n = 12 from n3) (show D3.bad = fun _ => false from b3)))
      clear z3 n3 b3
      go_wp2_with fail
      refine HFm.out.mono ?_
      rintro e w3 ⟨rfl, d3, q3, g3⟩
      have H3 := Lib.hid (And.intro d3 (And.intro (HN.out _ _ H2.out.2 g3) q3))
      clear d3 q3 g3 c0 c1 c2 H2 HFm
      go_wp2_with fail
      refine (wakes05 _).mono ?_
      rintro e w4 ⟨rfl, g4⟩
      have H4 := Lib.hid (And.intro (H3.out.1.gr0 g4) (And.intro (H3.out.2.1.trans g4) H3.out.2.2))
      clear g4 H3
      have c0 := (HHP.out.gr0 H4.out.2.1).cell 0
      have c1 := (HHP.out.gr0 H4.out.2.1).cell 1
      have c2 := (HHP.out.gr0 H4.out.2.1).cell 2
      have HOp := Lib.hid (show Calls Try.prog 13 #[.pointer (some ⟨a.bd, 0, none⟩), .agg #[.int .i64 1, .int .i64 3, .int .i64 5]] w4 _ from open_zero (p := pT) H4.out.1 HZ3.out.1.calm.off (by rw [HZ3.out.2.1]; decide) (fun k hk => by rw [calm_load HZ3.out.1.calm]; exact HZ3.out.1.med _))
      obtain ⟨D4, D5, u1, u2, u3, u4, u5, u6⟩ := ts_made HZ3.out.1 HZ3.out.2.1 HZ3.out.2.2 HA.out HT.out
      have HU := Lib.hid (And.intro u3 (And.intro u4 (And.intro u5 u6)))
      have HU1 := Lib.hid u1
      have HU2 := Lib.hid u2
      clear u1 u2 u3 u4 u5 u6
      go_wp2_with fail
      refine HOp.out.mono ?_
      rintro e w5 ⟨bk, rfl, k5, hq, g5⟩
      have HNQ := Lib.hid (show ∀ (wa wb : World), Gr [] w1 wa → Gr (bk.all ++ a.all) wa wb → Gr [] w1 wb from fun wa wb p r => p.nextN (cs := bk.all ++ a.all) r fun x hx => by
        rcases List.mem_append.1 hx with hx | hx
        · exact .inr (Nat.le_trans H4.out.2.1.size (hq x hx))
        · exact .inr (HLO.out x hx))
      have H5 := Lib.hid (And.intro (H4.out.1.gr0 g5) (And.intro k5 (And.intro (H4.out.2.1.trans g5) H4.out.2.2)))
      clear k5 hq g5 c0 c1 c2 H4 HOp
      have e0 := (HHA.out.gr0 H5.out.2.2.1).cell 0
      go_wp2_with fail
      refine (HFS.out _).mono ?_
      rintro e w6 ⟨rfl, g6⟩
      have HWA := Lib.hid (bwrite_any 0 A (H5.out.2.1.gr0 g6) (H5.out.1.gr0 g6) H5.out.2.2.2 (by omega) (by rw [HA.out]; exact HML.out) (by omega))
      rw [show writeS pT 0 A D3 ⟨0, fun _ => none⟩ = (0, D4, B0) from HU1.out] at HWA
      have H6 := Lib.hid (H5.out.2.2.1.trans g6)
      clear g6 e0
      go_wp2_with fail
      refine HWA.out.mono ?_
      rintro e w7 ⟨rfl, d7, b7, k7, g7⟩
      have H7 := Lib.hid (And.intro d7 (And.intro b7 (And.intro k7 (HNQ.out _ _ H6.out g7))))
      clear d7 b7 k7 g7 HWA H5 H6
      go_wp2_with fail
      refine (HFb.out _).mono ?_
      rintro e w8 ⟨rfl, g8⟩
      have HWB := Lib.hid (bwrite_any 1 T (H7.out.2.2.1.gr0 g8) (H7.out.1.gr0 g8) H7.out.2.1 (by omega) (by rw [HT.out]; exact HML.out) (by omega))
      rw [show writeS pT 1 T D4 B0 = (0, D5, B0) from HU2.out] at HWB
      have H8 := Lib.hid (H7.out.2.2.2.trans g8)
      clear g8
      go_wp2_with fail
      refine HWB.out.mono ?_
      rintro e w9 ⟨rfl, d9, b9, k9, g9⟩
      have H9 := Lib.hid (And.intro d9 (And.intro b9 (And.intro k9 (HNQ.out _ _ H8.out g9))))
      clear d9 b9 k9 g9 HWB H7 H8 HU1 HU2
      go_upto_region 11 with fail
      go_cut [73, 74, 75] (fun sv nv iv wz => wz = w9 ∧ iv = .int .i64 0 ∧ ∃ (M cap : Nat) (ao : Option Addr), sv = .slice ao M cap ∧ nv = .int .i64 (M : Int) ∧ M ≤ 12 ∧ ∀ k, k < M → ∃ (vb off n : Nat), ao = some ⟨vb, off, none⟩ ∧ n < 256 ∧ vb < w.heap.size ∧ w.cell? ⟨vb, off + k, none⟩ = some (.int .u8 (n : Int)))
      case first =>
        have HVV := HV
        rcases HV.out with ⟨ao, cap, rfl, rfl, hn, hm⟩ | ⟨vb, off, cap, rfl, h1, h2, h3, h4, h5⟩
        · have hmn := minIsR Try.prog 0 0 12 12 rfl rfl
          have HNN := Lib.hid hn
          unfold maxLen at hm
          clear hn HVV HV
          cases ao
          case none =>
            obtain rfl := HNN.out rfl
            go_wp2_with fail
            go_meet
            exact ⟨rfl, rfl, 0, 0, none, rfl, rfl, by omega, fun k hk => by omega⟩
          case some ad =>
            go_wp2_with fail
            go_meet
            exact ⟨rfl, rfl, 0, _, _, rfl, rfl, by omega, fun k hk => by omega⟩
        · obtain ⟨M, hM⟩ : ∃ M, M = min xs.length 12 := ⟨_, rfl⟩
          have hmn := minIsR Try.prog xs.length M 12 12 rfl hM
          have hM1 : M ≤ xs.length := by omega
          have HM12 := Lib.hid (show M ≤ 12 by omega)
          have HCl := Lib.hid h5
          have HVB := Lib.hid h4
          unfold maxLen at h3
          clear hM h4 h5 HVV HV
          generalize hL : xs.length = L at *
          have HL := Lib.hid hL
          clear hL
          have HML1 := Lib.hid hM1
          go_wp2_with fail
          go_meet
          refine ⟨rfl, rfl, M, _, _, rfl, rfl, HM12.out, fun k hk => ?_⟩
          have hkL : k < xs.length := by have := HML1.out; have := HL.out; omega
          have hx8 := HX.out (xs[k]) (List.getElem_mem hkL)
          refine ⟨vb, off, (xs[k]).toNat, rfl, by omega, HVB.out, ?_⟩
          rw [HCl.out k (xs[k]) (List.getElem?_eq_getElem hkL)]
          congr 2
          omega
      case rest =>
        obtain ⟨rfl, rfl, M, cap, ao, rfl, rfl, hM12, hcl⟩ := hcut
        have HCl := Lib.hid hcl
        clear hcl
        go_wp2_with fail
        go_loopw [75] (fun z wr => ∃ (k : Nat) (bd : Nat → Bool), k ≤ M ∧ z = .int .i64 (k : Int) ∧ bd 1 = false ∧ DevIs wr a { D5 with bad := bd } ∧ BkIs wr bk a pT B0 128 ∧ Gr [] w1 wr) (fun z _ => M - (intOf z).toNat)
        case atStart => exact ⟨0, fun _ => false, by omega, rfl, rfl, by rw [← HU.out.2.2.1]; exact H9.out.1, H9.out.2.2.1, H9.out.2.2.2⟩
        case round =>
          obtain ⟨k, bd, hk, rfl, hb1, dk, kk, gk⟩ := hrel
          have HK := Lib.hid (And.intro hb1 (And.intro dk (And.intro kk gk)))
          clear hb1 dk kk gk
          by_cases hkM : k < M
          · obtain ⟨vb, off, n, rfl, hn, hvb, hcell⟩ := HCl.out k hkM
            have ik : (k : Int) < (M : Int) := by omega
            have e0 := ((HGG.out.trans HK.out.2.2.2).cell0 hvb).trans hcell
            have hm8 : 2 + (n : Int) % 8 = ((2 + n % 8 : Nat) : Int) := by omega
            have HBr := Lib.hid (fun W d => break_in a { D5 with bad := bd } (2 + n % 8) W d (by show 2 + n % 8 < D5.n; rw [HU.out.2.2.2.n]; omega))
            rw [← hm8] at HBr
            clear hcell hm8 hvb
            go_wp2_with fail
            refine (HBr.out _ HK.out.2.1).mono ?_
            rintro e w10 ⟨rfl, d10, g10⟩
            have g10a : Gr a.all wr w10 := g10.mono (fun b hb => by simp at hb; subst hb; simp [DevA.all])
            have H10 := Lib.hid (And.intro d10 (And.intro (HK.out.2.2.1.grD g10a) (HN.out _ _ HK.out.2.2.2 g10a)))
            clear d10 g10 g10a HBr e0
            go_wp2_with fail
            go_roundw
            case rel => exact ⟨k + 1, fun j => if j = 2 + n % 8 then true else bd j, by omega, by go_num, by show (if 1 = 2 + n % 8 then true else bd 1) = false; rw [if_neg (by omega)]; exact HK.out.1, H10.out.1, H10.out.2.1, H10.out.2.2⟩
            case measure => simp [intOf]; omega
          · obtain rfl : k = M := by omega
            have ik : ¬ ((k : Int) < (k : Int)) := by omega
            have f0 := (HHC.out.gr0 HK.out.2.2.2).cell 0
            obtain ⟨F, hF⟩ : ∃ F : Nat, 1 + (p : Int) % 90 = (F : Int) := ⟨1 + p % 90, by omega⟩
            have HFu := Lib.hid (fuse_any a { D5 with bad := bd } (F : Int) (by have := HPQ.out.1; omega) wr HK.out.2.1)
            go_wp2_with fail
            refine HFu.out.mono ?_
            rintro e w11 ⟨rfl, d11, g11⟩
            obtain ⟨D, hD⟩ : ∃ D : DevS, D = { { D5 with bad := bd } with fuse := mx (F : Int) } := ⟨_, rfl⟩
            rw [← hD] at d11
            have hts : TS D A T := by rw [hD]; exact HU.out.2.2.2.broke rfl HU.out.2.1.off rfl rfl HK.out.1
            have hbd : Bd D 5000 := by rw [hD]; exact H9.out.2.1.mono (by omega)
            have g11a : Gr a.all wr w11 := g11.mono (fun b hb => by simp at hb; subst hb; simp [DevA.all])
            have H11 := Lib.hid (And.intro d11 (And.intro hbd (And.intro (HK.out.2.2.1.grD g11a) (And.intro (HN.out _ _ HK.out.2.2.2 g11a) hts))))
            clear d11 hbd g11 g11a hts hD HFu hF f0 HK H9 HU
            have e1 := (HHA.out.gr0 H11.out.2.2.2.1).cell 1
            go_wp2_with fail
            refine (HFT.out _).mono ?_
            rintro e w12 ⟨rfl, g12⟩
            have H12 := Lib.hid (And.intro (H11.out.1.gr0 g12) (And.intro H11.out.2.1 (And.intro (H11.out.2.2.1.gr0 g12) (And.intro (H11.out.2.2.2.1.trans g12) H11.out.2.2.2.2))))
            clear g12 e1 H11
            have e0 := (HHA.out.gr0 H12.out.2.2.2.1).cell 0
            rcases (show r = 0 ∨ r = 1 by have := HR2.out; omega) with rfl | rfl
            · as_aux_lemma =>
                obtain ⟨l0, ec, E, B', y1, y2, y3⟩ := write_last (i := 0) H12.out.2.2.2.2.ti H12.out.2.2.2.2.live (by decide) (by decide) HI0.out
                obtain rfl : l0 = 2 := by have : (l0 : Int) = 2 := y1.symm.trans (by decide); omega
                have HP := Lib.hid (bwrite_any 0 I0 H12.out.2.2.1 H12.out.1 H12.out.2.1 (by omega) (by rw [HI0.out]; exact HML.out) (by omega))
                rw [y2] at HP
                have HW := Lib.hid (show WrL pT 0 2 I0 D B0 (CR 0 A I0) ec E B' from y3.mono fun F hF => ⟨fun _ => mix2_congr hF (fun k hk => H12.out.2.2.2.2.l0 k hk) (fun _ _ => rfl), fun e => by cases e⟩)
                have HC := Lib.hid (show ∀ F, One2 (fun k => D.med (8 * 2 + k)) (wdL I0.data.toList) F → CR 0 A I0 F from fun F hF => ⟨fun _ => mix2_congr hF.mix (fun k hk => H12.out.2.2.2.2.l0 k hk) (fun _ _ => rfl), fun e => by cases e⟩)
                obtain ⟨I, hI⟩ : ∃ I, I = I0 := ⟨_, rfl⟩
                have HI := Lib.hid (show I.size = 64 by rw [hI]; exact HI0.out)
                rw [← hI] at HP HW HC ⊢
                clear hI y1 y2 y3
                go_wp2_with fail
                refine HP.out.mono ?_
                rintro e w14 ⟨rfl, d14, b14, k14, g14⟩
                have H14 := Lib.hid (And.intro d14 (And.intro b14 (And.intro (HNQ.out _ _ H12.out.2.2.2.1 g14) H12.out.2.2.2.2)))
                clear d14 b14 k14 g14 HP H12 e0
                obtain ⟨kf, hkf⟩ : ∃ kf : Nat → Bool, ∀ k, kf k = (bits .and .u8 ((q : Int) / 2 ^ k) 1 == 1) := ⟨fun k => (bits .and .u8 ((q : Int) / 2 ^ k) 1 == 1), fun _ => rfl⟩
                have HKF := Lib.hid hkf
                clear hkf
                go_wp2_with fail
                go_loopw [17, 115] (fun v z wr => ∃ k : Nat, k ≤ 8 ∧ z = .int .i64 (k : Int) ∧ wr.ownsRow w14.heap.size 4 1 v k ((List.range k).map fun j => .bool (kf j)) ∧ Gr [] w14 wr) (fun _ z _ => 8 - (intOf z).toNat)
                case atStart => exact ⟨0, by omega, rfl, World.ownsRow_nil _ _ _ _, Gr.refl _ _⟩
                case round =>
                  obtain ⟨k, hk, rfl, hown, g⟩ := hrel
                  by_cases hlt : k < 8
                  · have hd : decide ((k : Int) < 8) = true := by simp; omega
                    have e1 : wr.cell? ⟨bA + 1, 1, none⟩ = some (.int .u8 (q : Int)) := (HHC.out.gr0 (H14.out.2.2.1.trans g)).cell 1
                    have hsz := g.size
                    have HG := Lib.hid (And.intro hown g)
                    clear g
                    obtain ⟨hi, hz0, hz1, hz2⟩ := HIN.out
                    go_wp2_with (at_builtin; refine wpList_append_own _ rfl _ _ 54 rfl w14.heap.size 4 i0 (.bool false) 1 1 Try.underlying54 hi hz0 hz1 hz2 rfl (by decide) _ _ _ rfl (hown.alloc _) ⟨wr.heap.size, 0, none⟩ 1 1 [.bool (bits .and .u8 ((q : Int) / 2 ^ k) 1 == 1)] rfl rfl ?c1 ?c2 ?c3 ?c4 ?c5 ?_)
                    case c1 =>
                      intro a u ha
                      match a, ha with
                      | 0, ha => simp at ha; subst ha; simp [Addr.add]
                    case c2 => intro u hu; simp at hu; subst hu; rfl
                    case c3 => unfold maxLen; omega
                    case c4 => omega
                    case c5 => simp; omega
                    intro v' w15 hown3 hgrow _
                    have HN2 := Lib.hid (show w15.ownsRow w14.heap.size 4 1 v' (k + 1) ((List.range (k + 1)).map fun j => .bool (kf j)) ∧ Gr [] w14 w15 from by
                      refine ⟨?_, ?_⟩
                      · rw [List.range_succ, List.map_append]
                        show w15.ownsRow w14.heap.size 4 1 v' (k + 1) (_ ++ [.bool (kf k)])
                        rw [HKF.out k]
                        exact hown3
                      · exact ((HG.out.2.alloc _).grown hgrow (fun x hx => .inr (hown.lt x hx).1)))
                    clear hown3 hgrow hown e1 hi hz0 hz1 hz2
                    go_wp2_with fail
                    go_roundw
                    case rel => exact ⟨k + 1, by omega, by go_num, HN2.out.1, HN2.out.2⟩
                    case measure => simp [intOf]; omega
                  · obtain rfl : k = 8 := by omega
                    have HKP := Lib.hid (keep_of hown)
                    have H15 := Lib.hid (And.intro (H14.out.1.gr0 g) (And.intro H14.out.2.1 (And.intro (H14.out.2.2.1.trans g) H14.out.2.2.2)))
                    clear hown g HKF H14
                    rw [show ((8 : Nat) : Int) = 8 from rfl]
                    obtain ⟨w15, hw15⟩ : ∃ w15, w15 = wr := ⟨_, rfl⟩
                    rw [← hw15] at HKP H15 ⊢
                    clear hw15
                    have HBt := Lib.hid (boot_any a E _ 8 _ w15 H15.out.1 HKP.out (fun l => by have := H15.out.2.1.2 l; omega) (by have := H15.out.2.1.1; omega))
                    go_wp2_with fail
                    refine HBt.out.mono ?_
                    rintro e w16 ⟨rfl, ⟨L, hL, d16⟩, g16⟩
                    obtain ⟨hec, B3, got, t1, t2, t3, t4, t5, t6, t7, t8, t9⟩ := torn_reads H15.out.2.2.2 HW.out HC.out HA.out HT.out HI.out hL d16.ok.medB
                    rw [← HZ.out] at t5
                    have H16 := Lib.hid (And.intro d16 (HN.out _ _ H15.out.2.2.1 g16))
                    have HR := Lib.hid (And.intro t1 (And.intro t2 (And.intro t3 (And.intro t4 t5))))
                    have HG := Lib.hid (And.intro t6 (And.intro t7 (And.intro t8 t9)))
                    clear d16 g16 t1 t2 t3 t4 t5 t6 t7 t8 t9 hL HBt HKP H15 HW HC
                    have c0 := (HHP.out.gr0 H16.out.2).cell 0
                    have c1 := (HHP.out.gr0 H16.out.2).cell 1
                    have c2 := (HHP.out.gr0 H16.out.2).cell 2
                    generalize bootD E L (fun j => if j < 8 then kf j else false) = D16 at *
                    have HOp := Lib.hid (show Calls Try.prog 13 #[.pointer (some ⟨a.bd, 0, none⟩), .agg #[.int .i64 1, .int .i64 3, .int .i64 5]] w16 _ from open_ok (p := pT) H16.out.1 HR.out.1.calm.off (by rw [HR.out.2.1]; decide) HR.out.1.opens)
                    go_wp2_with fail
                    refine HOp.out.mono ?_
                    rintro e w17 ⟨bq, rfl, k17, hq17, g17⟩
                    have H17 := Lib.hid (And.intro (H16.out.1.gr0 g17) (And.intro k17 (H16.out.2.trans g17)))
                    clear k17 hq17 g17 c0 c1 c2 HOp H16
                    have HD16 := Lib.hid (show pT.a + sizeZ pT ≤ (D16.n : Int) by rw [HR.out.2.1]; decide)
                    have HR0 := Lib.hid (fun W (g : Gr [] w17 W) => read_any 0 (H17.out.2.1.gr0 g) (H17.out.1.gr0 g) HD16.out)
                    have HR1 := Lib.hid (fun W (g : Gr [] w17 W) => read_any 1 (H17.out.2.1.gr0 g) (H17.out.1.gr0 g) HD16.out)
                    have HR22 := Lib.hid (fun W (g : Gr [] w17 W) => read_any 2 (H17.out.2.1.gr0 g) (H17.out.1.gr0 g) HD16.out)
                    rw [HR.out.2.2.1] at HR0
                    rw [HR.out.2.2.2.1] at HR1
                    rw [HR.out.2.2.2.2] at HR22
                    have HGA := Lib.hid H17.out.2.2
                    clear H17 HD16 HR
                    rcases hec with rfl | rfl | rfl
                    · as_aux_lemma =>
                        obtain rfl : got = I := HG.out.2.1 rfl
                        go_wp2_with fail
                        refine (HR0.out _ (Gr.refl [] _)).mono ?_
                        rintro e w18 ⟨rfl, g18⟩
                        have HQ := Lib.hid g18
                        clear g18
                        go_wp2_with fail
                        refine (HR1.out _ HQ.out).mono ?_
                        rintro e w19 ⟨rfl, g19⟩
                        have HQ := Lib.hid (HQ.out.trans g19)
                        clear g19
                        go_wp2_with fail
                        refine (HR22.out _ HQ.out).mono ?_
                        rintro e w20 ⟨rfl, g20⟩
                        have HQ := Lib.hid (HQ.out.trans g20)
                        clear g20
                        go_wp2_with fail
                        refine (HFb.out _).mono ?_
                        rintro e w21 ⟨rfl, g21⟩
                        have HQ := Lib.hid (HQ.out.trans g21)
                        clear g21
                        go_wp2_with fail
                        refine (HF0.out _).mono ?_
                        rintro e w22 ⟨rfl, g22⟩
                        have HQ := Lib.hid (HQ.out.trans g22)
                        clear g22
                        have e0 := (HHA.out.gr0 (HGA.out.trans HQ.out)).cell 0
                        go_wp2_with fail
                        refine (HFS.out _).mono ?_
                        rintro e w24 ⟨rfl, g24⟩
                        have HQ := Lib.hid (HQ.out.trans g24)
                        clear g24
                        have e0 := (HHA.out.gr0 (HGA.out.trans HQ.out)).cell 0
                        go_wp2_with fail
                        have HMi := Lib.hid (mixed_any A got got w24 (by rw [HA.out]; exact HML.out) (by rw [HI.out]; exact HML.out) (by rw [HG.out.1]; exact HML.out))
                        have hmix : mixB A got got = true := mixB_of HA.out HI.out HG.out.1 (fun j hj => by
                          obtain ⟨F, f1, f2⟩ := HG.out.2.2.2
                          have z := f1.1 rfl j hj
                          rw [← f2 j hj] at z
                          exact z)
                        rw [hmix] at HMi
                        clear hmix
                        refine HMi.out.mono ?_
                        rintro e w25 ⟨rfl, g25⟩
                        have HQ := Lib.hid (HQ.out.trans g25)
                        clear g25 HMi
                        go_wp2_with fail
                        go_roundw
                        case rel => exact ⟨1, by omega, by go_num, HGA.out.trans HQ.out⟩
                        case measure => simp [intOf]
                    · as_aux_lemma =>
                        obtain rfl : got = A := HG.out.2.2.1 rfl
                        go_wp2_with fail
                        refine (HR0.out _ (Gr.refl [] _)).mono ?_
                        rintro e w18 ⟨rfl, g18⟩
                        have HQ := Lib.hid g18
                        clear g18
                        go_wp2_with fail
                        refine (HR1.out _ HQ.out).mono ?_
                        rintro e w19 ⟨rfl, g19⟩
                        have HQ := Lib.hid (HQ.out.trans g19)
                        clear g19
                        go_wp2_with fail
                        refine (HR22.out _ HQ.out).mono ?_
                        rintro e w20 ⟨rfl, g20⟩
                        have HQ := Lib.hid (HQ.out.trans g20)
                        clear g20
                        go_wp2_with fail
                        refine (HFb.out _).mono ?_
                        rintro e w21 ⟨rfl, g21⟩
                        have HQ := Lib.hid (HQ.out.trans g21)
                        clear g21
                        go_wp2_with fail
                        refine (HF0.out _).mono ?_
                        rintro e w22 ⟨rfl, g22⟩
                        have HQ := Lib.hid (HQ.out.trans g22)
                        clear g22
                        have e0 := (HHA.out.gr0 (HGA.out.trans HQ.out)).cell 0
                        go_wp2_with fail
                        refine (HFS.out _).mono ?_
                        rintro e w23 ⟨rfl, g23⟩
                        have HQ := Lib.hid (HQ.out.trans g23)
                        clear g23
                        have e0 := (HHA.out.gr0 (HGA.out.trans HQ.out)).cell 0
                        go_wp2_with fail
                        refine (HFS.out _).mono ?_
                        rintro e w24 ⟨rfl, g24⟩
                        have HQ := Lib.hid (HQ.out.trans g24)
                        clear g24
                        have e0 := (HHA.out.gr0 (HGA.out.trans HQ.out)).cell 0
                        go_wp2_with fail
                        have HMi := Lib.hid (mixed_any got I got w24 (by rw [HA.out]; exact HML.out) (by rw [HI.out]; exact HML.out) (by rw [HG.out.1]; exact HML.out))
                        have hmix : mixB got I got = true := mixB_of HA.out HI.out HG.out.1 (fun j hj => by
                          obtain ⟨F, f1, f2⟩ := HG.out.2.2.2
                          have z := f1.1 rfl j hj
                          rw [← f2 j hj] at z
                          exact z)
                        rw [hmix] at HMi
                        clear hmix
                        refine HMi.out.mono ?_
                        rintro e w25 ⟨rfl, g25⟩
                        have HQ := Lib.hid (HQ.out.trans g25)
                        clear g25 HMi
                        go_wp2_with fail
                        go_roundw
                        case rel => exact ⟨1, by omega, by go_num, HGA.out.trans HQ.out⟩
                        case measure => simp [intOf]
                    · as_aux_lemma =>
                        go_wp2_with fail
                        refine (HR0.out _ (Gr.refl [] _)).mono ?_
                        rintro e w18 ⟨rfl, g18⟩
                        have HQ := Lib.hid g18
                        clear g18
                        go_wp2_with fail
                        refine (HR1.out _ HQ.out).mono ?_
                        rintro e w19 ⟨rfl, g19⟩
                        have HQ := Lib.hid (HQ.out.trans g19)
                        clear g19
                        go_wp2_with fail
                        refine (HR22.out _ HQ.out).mono ?_
                        rintro e w20 ⟨rfl, g20⟩
                        have HQ := Lib.hid (HQ.out.trans g20)
                        clear g20
                        go_wp2_with fail
                        refine (HFb.out _).mono ?_
                        rintro e w21 ⟨rfl, g21⟩
                        have HQ := Lib.hid (HQ.out.trans g21)
                        clear g21
                        go_wp2_with fail
                        refine (HF0.out _).mono ?_
                        rintro e w22 ⟨rfl, g22⟩
                        have HQ := Lib.hid (HQ.out.trans g22)
                        clear g22
                        have e0 := (HHA.out.gr0 (HGA.out.trans HQ.out)).cell 0
                        go_wp2_with fail
                        refine (HFS.out _).mono ?_
                        rintro e w24 ⟨rfl, g24⟩
                        have HQ := Lib.hid (HQ.out.trans g24)
                        clear g24
                        have e0 := (HHA.out.gr0 (HGA.out.trans HQ.out)).cell 0
                        go_wp2_with fail
                        have HMi := Lib.hid (mixed_any A I got w24 (by rw [HA.out]; exact HML.out) (by rw [HI.out]; exact HML.out) (by rw [HG.out.1]; exact HML.out))
                        have hmix : mixB A I got = true := mixB_of HA.out HI.out HG.out.1 (fun j hj => by
                          obtain ⟨F, f1, f2⟩ := HG.out.2.2.2
                          have z := f1.1 rfl j hj
                          rw [← f2 j hj] at z
                          exact z)
                        rw [hmix] at HMi
                        clear hmix
                        refine HMi.out.mono ?_
                        rintro e w25 ⟨rfl, g25⟩
                        have HQ := Lib.hid (HQ.out.trans g25)
                        clear g25 HMi
                        go_wp2_with fail
                        go_roundw
                        case rel => exact ⟨1, by omega, by go_num, HGA.out.trans HQ.out⟩
                        case measure => simp [intOf]
            · as_aux_lemma =>
                have hm := H12.out.1.ok.medB
                have hw := wordS_text (D := D) HA.out H12.out.2.2.2.2.l0 hm
                have hA64 : A.size = 64 := HA.out
                go_wp2_with fail
                have k0 := kp_cell (show w12.cell? ⟨bA, 0, none⟩ = some (.string s) from e0)
                have hne := kp_ne w12
                refine wp_region_kp (by kernel_rfl) (by kernel_rfl) ?_
                repeat (go_big_quiet_step ((rename_i x; exact kp_call x ((HFS.out _).mono fun _ _ q => ⟨q.1, q.2.below0⟩))))
                with_reducible refine wpQuiet_nil ?_
                rintro _ ⟨y, rfl⟩
                have g13 : Gr [] w12 y.w := Gr.ofBelow (cs := []) y.h
                obtain ⟨w13, hw13⟩ : ∃ w13, w13 = y.w := ⟨_, rfl⟩
                rw [← hw13] at g13 ⊢
                clear hw13 k0 hne
                have H13 := Lib.hid (And.intro (H12.out.1.gr0 g13) (And.intro H12.out.2.1 (And.intro (H12.out.2.2.1.gr0 g13) (And.intro (H12.out.2.2.2.1.trans g13) H12.out.2.2.2.2))))
                clear H12 g13 e0
                have H12 := H13
                clear H13
                have e0 := (HHA.out.gr0 H12.out.2.2.2.1).cell 0
                rw [show A.extract 0 8 ++ ⟨#[1, 2, 3, 4, 5, 6, 7, 8]⟩ ++ A.extract 16 64 = wordS A from rfl]
                obtain ⟨l0, ec, E, B', y1, y2, y3⟩ := ww_last (i := 0) (k := 1) (v := 578437695752307201) H12.out.2.2.2.2.ti H12.out.2.2.2.2.live hm (by omega) (by decide) (by decide) (by omega)
                obtain rfl : l0 = 2 := by have : (l0 : Int) = 2 := y1.symm.trans (by decide); omega
                have HP := Lib.hid (show Calls Try.prog 19 #[.pointer (some ⟨bk.b, 0, none⟩), .int .i64 0, .int .i64 1, .int .u64 578437695752307201] w13 _ from bww_any 0 1 578437695752307201 H12.out.2.2.1 H12.out.1 H12.out.2.1 (by omega) (by omega) (by rw [H12.out.2.2.2.2.n]; decide) (by omega))
                rw [show writeWordS pT 0 1 578437695752307201 D B0 = (ec, E, B') from y2] at HP
                rw [hw] at y3
                obtain ⟨I, hI⟩ : ∃ I, I = wordS A := ⟨_, rfl⟩
                have HI := Lib.hid (show I.size = 64 by rw [hI]; exact wordS_size HA.out)
                have HIW := Lib.hid (show ∀ k, k < 8 → updF (fun j => D.med (8 * 2 + j)) 1 578437695752307201 k = wdL I.data.toList k from fun k hk => by
                  rw [hI, wordS_word HA.out k hk]
                  unfold updF
                  split
                  · rfl
                  · exact H12.out.2.2.2.2.l0 k hk)
                rw [← hI] at y3 ⊢
                have HW := Lib.hid (show WrL pT 0 2 I D B0 (CR 1 A I) ec E B' from y3.mono fun F hF => ⟨(fun e => by cases e), fun _ => one2_congr hF (fun k hk => H12.out.2.2.2.2.l0 k hk) HIW.out⟩)
                have HC := Lib.hid (show ∀ F, One2 (fun k => D.med (8 * 2 + k)) (wdL I.data.toList) F → CR 1 A I F from fun F hF => ⟨(fun e => by cases e), fun _ => one2_congr hF (fun k hk => H12.out.2.2.2.2.l0 k hk) (fun _ _ => rfl)⟩)
                clear hI hw hm y1 y2 y3 HIW hA64
                go_wp2_with fail
                refine HP.out.mono ?_
                rintro e w14 ⟨rfl, d14, b14, k14, g14⟩
                have H14 := Lib.hid (And.intro d14 (And.intro b14 (And.intro (HNQ.out _ _ H12.out.2.2.2.1 g14) H12.out.2.2.2.2)))
                clear d14 b14 k14 g14 HP H12 e0
                obtain ⟨kf, hkf⟩ : ∃ kf : Nat → Bool, ∀ k, kf k = (bits .and .u8 ((q : Int) / 2 ^ k) 1 == 1) := ⟨fun k => (bits .and .u8 ((q : Int) / 2 ^ k) 1 == 1), fun _ => rfl⟩
                have HKF := Lib.hid hkf
                clear hkf
                go_wp2_with fail
                go_loopw [17, 115] (fun v z wr => ∃ k : Nat, k ≤ 8 ∧ z = .int .i64 (k : Int) ∧ wr.ownsRow w14.heap.size 4 1 v k ((List.range k).map fun j => .bool (kf j)) ∧ Gr [] w14 wr) (fun _ z _ => 8 - (intOf z).toNat)
                case atStart => exact ⟨0, by omega, rfl, World.ownsRow_nil _ _ _ _, Gr.refl _ _⟩
                case round =>
                  obtain ⟨k, hk, rfl, hown, g⟩ := hrel
                  by_cases hlt : k < 8
                  · have hd : decide ((k : Int) < 8) = true := by simp; omega
                    have e1 : wr.cell? ⟨bA + 1, 1, none⟩ = some (.int .u8 (q : Int)) := (HHC.out.gr0 (H14.out.2.2.1.trans g)).cell 1
                    have hsz := g.size
                    have HG := Lib.hid (And.intro hown g)
                    clear g
                    obtain ⟨hi, hz0, hz1, hz2⟩ := HIN.out
                    go_wp2_with (at_builtin; refine wpList_append_own _ rfl _ _ 54 rfl w14.heap.size 4 i0 (.bool false) 1 1 Try.underlying54 hi hz0 hz1 hz2 rfl (by decide) _ _ _ rfl (hown.alloc _) ⟨wr.heap.size, 0, none⟩ 1 1 [.bool (bits .and .u8 ((q : Int) / 2 ^ k) 1 == 1)] rfl rfl ?c1 ?c2 ?c3 ?c4 ?c5 ?_)
                    case c1 =>
                      intro a u ha
                      match a, ha with
                      | 0, ha => simp at ha; subst ha; simp [Addr.add]
                    case c2 => intro u hu; simp at hu; subst hu; rfl
                    case c3 => unfold maxLen; omega
                    case c4 => omega
                    case c5 => simp; omega
                    intro v' w15 hown3 hgrow _
                    have HN2 := Lib.hid (show w15.ownsRow w14.heap.size 4 1 v' (k + 1) ((List.range (k + 1)).map fun j => .bool (kf j)) ∧ Gr [] w14 w15 from by
                      refine ⟨?_, ?_⟩
                      · rw [List.range_succ, List.map_append]
                        show w15.ownsRow w14.heap.size 4 1 v' (k + 1) (_ ++ [.bool (kf k)])
                        rw [HKF.out k]
                        exact hown3
                      · exact ((HG.out.2.alloc _).grown hgrow (fun x hx => .inr (hown.lt x hx).1)))
                    clear hown3 hgrow hown e1 hi hz0 hz1 hz2
                    go_wp2_with fail
                    go_roundw
                    case rel => exact ⟨k + 1, by omega, by go_num, HN2.out.1, HN2.out.2⟩
                    case measure => simp [intOf]; omega
                  · obtain rfl : k = 8 := by omega
                    have HKP := Lib.hid (keep_of hown)
                    have H15 := Lib.hid (And.intro (H14.out.1.gr0 g) (And.intro H14.out.2.1 (And.intro (H14.out.2.2.1.trans g) H14.out.2.2.2)))
                    clear hown g HKF H14
                    rw [show ((8 : Nat) : Int) = 8 from rfl]
                    obtain ⟨w15, hw15⟩ : ∃ w15, w15 = wr := ⟨_, rfl⟩
                    rw [← hw15] at HKP H15 ⊢
                    clear hw15
                    have HBt := Lib.hid (boot_any a E _ 8 _ w15 H15.out.1 HKP.out (fun l => by have := H15.out.2.1.2 l; omega) (by have := H15.out.2.1.1; omega))
                    go_wp2_with fail
                    refine HBt.out.mono ?_
                    rintro e w16 ⟨rfl, ⟨L, hL, d16⟩, g16⟩
                    obtain ⟨hec, B3, got, t1, t2, t3, t4, t5, t6, t7, t8, t9⟩ := torn_reads H15.out.2.2.2 HW.out HC.out HA.out HT.out HI.out hL d16.ok.medB
                    rw [← HZ.out] at t5
                    have H16 := Lib.hid (And.intro d16 (HN.out _ _ H15.out.2.2.1 g16))
                    have HR := Lib.hid (And.intro t1 (And.intro t2 (And.intro t3 (And.intro t4 t5))))
                    have HG := Lib.hid (And.intro t6 (And.intro t7 (And.intro t8 t9)))
                    clear d16 g16 t1 t2 t3 t4 t5 t6 t7 t8 t9 hL HBt HKP H15 HW HC
                    have c0 := (HHP.out.gr0 H16.out.2).cell 0
                    have c1 := (HHP.out.gr0 H16.out.2).cell 1
                    have c2 := (HHP.out.gr0 H16.out.2).cell 2
                    generalize bootD E L (fun j => if j < 8 then kf j else false) = D16 at *
                    have HOp := Lib.hid (show Calls Try.prog 13 #[.pointer (some ⟨a.bd, 0, none⟩), .agg #[.int .i64 1, .int .i64 3, .int .i64 5]] w16 _ from open_ok (p := pT) H16.out.1 HR.out.1.calm.off (by rw [HR.out.2.1]; decide) HR.out.1.opens)
                    go_wp2_with fail
                    refine HOp.out.mono ?_
                    rintro e w17 ⟨bq, rfl, k17, hq17, g17⟩
                    have H17 := Lib.hid (And.intro (H16.out.1.gr0 g17) (And.intro k17 (H16.out.2.trans g17)))
                    clear k17 hq17 g17 c0 c1 c2 HOp H16
                    have HD16 := Lib.hid (show pT.a + sizeZ pT ≤ (D16.n : Int) by rw [HR.out.2.1]; decide)
                    have HR0 := Lib.hid (fun W (g : Gr [] w17 W) => read_any 0 (H17.out.2.1.gr0 g) (H17.out.1.gr0 g) HD16.out)
                    have HR1 := Lib.hid (fun W (g : Gr [] w17 W) => read_any 1 (H17.out.2.1.gr0 g) (H17.out.1.gr0 g) HD16.out)
                    have HR22 := Lib.hid (fun W (g : Gr [] w17 W) => read_any 2 (H17.out.2.1.gr0 g) (H17.out.1.gr0 g) HD16.out)
                    rw [HR.out.2.2.1] at HR0
                    rw [HR.out.2.2.2.1] at HR1
                    rw [HR.out.2.2.2.2] at HR22
                    have HGA := Lib.hid H17.out.2.2
                    clear H17 HD16 HR
                    rcases hec with rfl | rfl | rfl
                    · as_aux_lemma =>
                        obtain rfl : got = I := HG.out.2.1 rfl
                        go_wp2_with fail
                        refine (HR0.out _ (Gr.refl [] _)).mono ?_
                        rintro e w18 ⟨rfl, g18⟩
                        have HQ := Lib.hid g18
                        clear g18
                        go_wp2_with fail
                        refine (HR1.out _ HQ.out).mono ?_
                        rintro e w19 ⟨rfl, g19⟩
                        have HQ := Lib.hid (HQ.out.trans g19)
                        clear g19
                        go_wp2_with fail
                        refine (HR22.out _ HQ.out).mono ?_
                        rintro e w20 ⟨rfl, g20⟩
                        have HQ := Lib.hid (HQ.out.trans g20)
                        clear g20
                        go_wp2_with fail
                        refine (HFb.out _).mono ?_
                        rintro e w21 ⟨rfl, g21⟩
                        have HQ := Lib.hid (HQ.out.trans g21)
                        clear g21
                        go_wp2_with fail
                        refine (HF0.out _).mono ?_
                        rintro e w22 ⟨rfl, g22⟩
                        have HQ := Lib.hid (HQ.out.trans g22)
                        clear g22
                        have e0 := (HHA.out.gr0 (HGA.out.trans HQ.out)).cell 0
                        go_wp2_with fail
                        go_roundw
                        case rel => exact ⟨2, by omega, by go_num, HGA.out.trans HQ.out⟩
                        case measure => simp [intOf]
                    · as_aux_lemma =>
                        have hor : got = I ∨ (got = A ∧ A ≠ I) := by
                          by_cases c : A = I
                          · exact .inl ((HG.out.2.2.1 rfl).trans c)
                          · exact .inr ⟨HG.out.2.2.1 rfl, c⟩
                        rcases hor with rfl | ⟨rfl, hne⟩
                        · skip
                          obtain rfl : got = A := HG.out.2.2.1 rfl
                          go_wp2_with fail
                          refine (HR0.out _ (Gr.refl [] _)).mono ?_
                          rintro e w18 ⟨rfl, g18⟩
                          have HQ := Lib.hid g18
                          clear g18
                          go_wp2_with fail
                          refine (HR1.out _ HQ.out).mono ?_
                          rintro e w19 ⟨rfl, g19⟩
                          have HQ := Lib.hid (HQ.out.trans g19)
                          clear g19
                          go_wp2_with fail
                          refine (HR22.out _ HQ.out).mono ?_
                          rintro e w20 ⟨rfl, g20⟩
                          have HQ := Lib.hid (HQ.out.trans g20)
                          clear g20
                          go_wp2_with fail
                          refine (HFb.out _).mono ?_
                          rintro e w21 ⟨rfl, g21⟩
                          have HQ := Lib.hid (HQ.out.trans g21)
                          clear g21
                          go_wp2_with fail
                          refine (HF0.out _).mono ?_
                          rintro e w22 ⟨rfl, g22⟩
                          have HQ := Lib.hid (HQ.out.trans g22)
                          clear g22
                          have e0 := (HHA.out.gr0 (HGA.out.trans HQ.out)).cell 0
                          go_wp2_with fail
                          refine (HFS.out _).mono ?_
                          rintro e w23 ⟨rfl, g23⟩
                          have HQ := Lib.hid (HQ.out.trans g23)
                          clear g23
                          have e0 := (HHA.out.gr0 (HGA.out.trans HQ.out)).cell 0
                          go_wp2_with fail
                          go_roundw
                          case rel => exact ⟨2, by omega, by go_num, HGA.out.trans HQ.out⟩
                          case measure => simp [intOf]
                        · skip
                          have b1 := bs_beq_false hne
                          go_wp2_with fail
                          refine (HR0.out _ (Gr.refl [] _)).mono ?_
                          rintro e w18 ⟨rfl, g18⟩
                          have HQ := Lib.hid g18
                          clear g18
                          go_wp2_with fail
                          refine (HR1.out _ HQ.out).mono ?_
                          rintro e w19 ⟨rfl, g19⟩
                          have HQ := Lib.hid (HQ.out.trans g19)
                          clear g19
                          go_wp2_with fail
                          refine (HR22.out _ HQ.out).mono ?_
                          rintro e w20 ⟨rfl, g20⟩
                          have HQ := Lib.hid (HQ.out.trans g20)
                          clear g20
                          go_wp2_with fail
                          refine (HFb.out _).mono ?_
                          rintro e w21 ⟨rfl, g21⟩
                          have HQ := Lib.hid (HQ.out.trans g21)
                          clear g21
                          go_wp2_with fail
                          refine (HF0.out _).mono ?_
                          rintro e w22 ⟨rfl, g22⟩
                          have HQ := Lib.hid (HQ.out.trans g22)
                          clear g22
                          have e0 := (HHA.out.gr0 (HGA.out.trans HQ.out)).cell 0
                          go_wp2_with fail
                          refine (HFS.out _).mono ?_
                          rintro e w23 ⟨rfl, g23⟩
                          have HQ := Lib.hid (HQ.out.trans g23)
                          clear g23
                          have e0 := (HHA.out.gr0 (HGA.out.trans HQ.out)).cell 0
                          go_wp2_with fail
                          refine (HFS.out _).mono ?_
                          rintro e w24 ⟨rfl, g24⟩
                          have HQ := Lib.hid (HQ.out.trans g24)
                          clear g24
                          have e0 := (HHA.out.gr0 (HGA.out.trans HQ.out)).cell 0
                          go_wp2_with fail
                          go_roundw
                          case rel => exact ⟨2, by omega, by go_num, HGA.out.trans HQ.out⟩
                          case measure => simp [intOf]
                    · as_aux_lemma =>
                        have hor : got = I ∨ (got = A ∧ A ≠ I) := by
                          obtain ⟨F, f1, f2⟩ := HG.out.2.2.2
                          by_cases c : A = I
                          · rcases f1.2 rfl with q | q
                            · exact .inl (bytes_eq HG.out.1 HI.out fun k hk => by rw [f2 k hk, q k hk, c])
                            · exact .inl (bytes_eq HG.out.1 HI.out fun k hk => by rw [f2 k hk, q k hk])
                          · rcases f1.2 rfl with q | q
                            · exact .inr ⟨bytes_eq HG.out.1 HA.out fun k hk => by rw [f2 k hk, q k hk], c⟩
                            · exact .inl (bytes_eq HG.out.1 HI.out fun k hk => by rw [f2 k hk, q k hk])
                        rcases hor with rfl | ⟨rfl, hne⟩
                        · skip
                          go_wp2_with fail
                          refine (HR0.out _ (Gr.refl [] _)).mono ?_
                          rintro e w18 ⟨rfl, g18⟩
                          have HQ := Lib.hid g18
                          clear g18
                          go_wp2_with fail
                          refine (HR1.out _ HQ.out).mono ?_
                          rintro e w19 ⟨rfl, g19⟩
                          have HQ := Lib.hid (HQ.out.trans g19)
                          clear g19
                          go_wp2_with fail
                          refine (HR22.out _ HQ.out).mono ?_
                          rintro e w20 ⟨rfl, g20⟩
                          have HQ := Lib.hid (HQ.out.trans g20)
                          clear g20
                          go_wp2_with fail
                          refine (HFb.out _).mono ?_
                          rintro e w21 ⟨rfl, g21⟩
                          have HQ := Lib.hid (HQ.out.trans g21)
                          clear g21
                          go_wp2_with fail
                          refine (HF0.out _).mono ?_
                          rintro e w22 ⟨rfl, g22⟩
                          have HQ := Lib.hid (HQ.out.trans g22)
                          clear g22
                          have e0 := (HHA.out.gr0 (HGA.out.trans HQ.out)).cell 0
                          go_wp2_with fail
                          go_roundw
                          case rel => exact ⟨2, by omega, by go_num, HGA.out.trans HQ.out⟩
                          case measure => simp [intOf]
                        · skip
                          have b1 := bs_beq_false hne
                          go_wp2_with fail
                          refine (HR0.out _ (Gr.refl [] _)).mono ?_
                          rintro e w18 ⟨rfl, g18⟩
                          have HQ := Lib.hid g18
                          clear g18
                          go_wp2_with fail
                          refine (HR1.out _ HQ.out).mono ?_
                          rintro e w19 ⟨rfl, g19⟩
                          have HQ := Lib.hid (HQ.out.trans g19)
                          clear g19
                          go_wp2_with fail
                          refine (HR22.out _ HQ.out).mono ?_
                          rintro e w20 ⟨rfl, g20⟩
                          have HQ := Lib.hid (HQ.out.trans g20)
                          clear g20
                          go_wp2_with fail
                          refine (HFb.out _).mono ?_
                          rintro e w21 ⟨rfl, g21⟩
                          have HQ := Lib.hid (HQ.out.trans g21)
                          clear g21
                          go_wp2_with fail
                          refine (HF0.out _).mono ?_
                          rintro e w22 ⟨rfl, g22⟩
                          have HQ := Lib.hid (HQ.out.trans g22)
                          clear g22
                          have e0 := (HHA.out.gr0 (HGA.out.trans HQ.out)).cell 0
                          go_wp2_with fail
                          refine (HFS.out _).mono ?_
                          rintro e w24 ⟨rfl, g24⟩
                          have HQ := Lib.hid (HQ.out.trans g24)
                          clear g24
                          have e0 := (HHA.out.gr0 (HGA.out.trans HQ.out)).cell 0
                          go_wp2_with fail
                          go_roundw
                          case rel => exact ⟨2, by omega, by go_num, HGA.out.trans HQ.out⟩
                          case measure => simp [intOf]
    · obtain rfl : r = 2 := by omega
      have HG0 := Lib.hid g0
      clear g0
      rw [show ((2 : Nat) : Int) = 2 from rfl]
      go_wp2_with fail
      go_ret
      exact ⟨rfl, HGG.out.trans HG0.out⟩
theorem walk_SpareTorn (v : Value) (xs : List Int) (a1 : List ByteArray) (a2 : List Int) {w : World} (h : SlI .u8 w v xs) (hx : ∀ x ∈ xs, (Lit.int .u8 x).wf = true) (l1 : a1.length = 2) (w1 : ∀ x ∈ a1, x.size ≤ maxLen ∧ x.size ≤ reachBytes) (l2 : a2.length = 3) (w2 : ∀ x ∈ a2, (Lit.int .u8 x).wf = true) :
    Calls Try.prog 4 #[v, .agg (a1.map Value.string).toArray, .agg (a2.map (Value.int .u8)).toArray] w fun e w' => e = .returned (.bool true) ∧ Below w.heap.size w w' := by
  obtain ⟨s, t, rfl⟩ : ∃ s t, a1 = [s, t] := by
    match a1, l1 with
    | [s, t], _ => exact ⟨s, t, rfl⟩
  obtain ⟨x, y, z, rfl⟩ : ∃ x y z, a2 = [x, y, z] := by
    match a2, l2 with
    | [x, y, z], _ => exact ⟨x, y, z, rfl⟩
  obtain ⟨p, rfl, hp⟩ := natU8 (w2 x (by simp))
  obtain ⟨q, rfl, hq⟩ := natU8 (w2 y (by simp))
  obtain ⟨r, rfl, hr⟩ := natU8 (w2 z (by simp))
  exact (torn5_law v xs s t p q r h (fun x hx2 => bounds_u8 (hx x hx2)) hp hq (Nat.le_trans (w1 s (by simp)).2 (by decide)) (Nat.le_trans (w1 t (by simp)).2 (by decide))).mono fun _ _ q => ⟨q.1, q.2.below0⟩
end Go.Proofs.Ytgifjnniohcacaa
