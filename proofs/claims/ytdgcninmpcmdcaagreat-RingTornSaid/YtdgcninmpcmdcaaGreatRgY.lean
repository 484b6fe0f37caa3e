/-
  RingTorn.
-/
import Derived.Test.YtdgcninmpcmdcaaGreatMgAd
import Derived.Test.YtdgcninmpcmdcaaGreatRgI
import Derived.Test.YtdgcninmpcmdcaaGreatMgH
import Derived.Test.YtdgcninmpcmdcaaGreatGapM
import Derived.Test.YtdgcninmpcmdcaaGreatMgV
import Derived.Deep.CutBlock
namespace Go.Proofs.YtdgcninmpcmdcaaGreat
open Go.RowKit
set_option linter.unusedVariables false

theorem minIsT (P : Program) (L m k : Nat) (kI : Int) (hk : kI = k) (h : m = min L k) (ts : Array TypeId) (t : TypeId) (w : World) : (Builtin.min_ ts t #[.int .i64 (L : Int), .int .i64 kI]).run P w = .ok (.int .i64 (m : Int)) w := by
  subst hk
  rw [run_min_int2]
  have : (if ((k : Nat) : Int) < (L : Int) then ((k : Nat) : Int) else (L : Int)) = (m : Int) := by split <;> omega
  rw [this]
theorem mix2_congT {a b c d F : Nat → Nat} (h : Mix2 a b F) (h1 : ∀ k, k < 8 → a k = c k) (h2 : ∀ k, k < 8 → b k = d k) : Mix2 c d F := fun k hk => by
  rw [← h1 k hk, ← h2 k hk]; exact h k hk
/-- What the law keeps: its boxes, its plan. -/
structure Tn (w : World) (bA pb : Nat) (s t : ByteArray) (p q r3 ps : Nat) (wr : World) : Prop where
  gr : Gr [] w wr
  ar : Holds wr bA #[.string s, .string t] 64
  cu : Holds wr (bA + 1) #[.int .u8 (p : Int), .int .u8 (q : Int), .int .u8 (r3 : Int)] 65
  pl : Holds wr pb #[.int .i64 0, .int .i64 3, .int .i64 6, .int .i64 (ps : Int)] 60
  l1 : bA + 1 < pb
  l2 : w.heap.size ≤ pb
theorem Tn.next {w wr w2 : World} {bA pb : Nat} {s t : ByteArray} {p q r3 ps : Nat} (h : Tn w bA pb s t p q r3 ps wr) {bs : List Nat} (g : Gr bs wr w2) (hb : ∀ x ∈ bs, pb < x) : Tn w bA pb s t p q r3 ps w2 := by
  have h1 := h.l1
  have h2 := h.l2
  exact ⟨h.gr.nextN g fun x hx => .inr (by have := hb x hx; omega), h.ar.gr g fun hx => by have := hb _ hx; omega, h.cu.gr g fun hx => by have := hb _ hx; omega, h.pl.gr g fun hx => by have := hb _ hx; omega, h1, h2⟩
theorem Tn.next0 {w wr w2 : World} {bA pb : Nat} {s t : ByteArray} {p q r3 ps : Nat} (h : Tn w bA pb s t p q r3 ps wr) (g : Gr [] wr w2) : Tn w bA pb s t p q r3 ps w2 := h.next g (by simp)
/-- The plan of the law. -/
def PT7 (ps : Nat) : PlanR := ⟨0, 3, 6, (ps : Int)⟩
theorem okPT (ps : Nat) (h1 : 1 ≤ ps) (h2 : ps ≤ 3) : OkR (PT7 ps) := ⟨(by decide : 1 ≤ 3), (by decide : 3 ≤ 1024), by show (1 : Int) ≤ (ps : Int); omega, by show (ps : Int) ≤ 65535; omega, (by decide : okZ ⟨0, 5, 6⟩ = true)⟩
/-- The three lines. -/
def was7 (A T U : ByteArray) : Nat → ByteArray := fun i => if i = 0 then A else if i = 1 then T else U
def wasF (A T U : ByteArray) : Nat → Nat → Nat := fun i k => wdL (was7 A T U i).data.toList k
/-- Behind Open. -/
structure Tf (w : World) (bA pb : Nat) (s t : ByteArray) (p q r3 ps lb : Nat) (A T U : ByteArray) (k2 : Nat) (b2 : BkA) (a : DevA) (B : BkS) (j : Nat) (D : DevS) (wr : World) : Prop where
  tn : Tn w bA pb s t p q r3 ps wr
  li : Holds wr lb #[.string A, .string T, .string U] 9
  rg : RgIs wr k2 b2 a (PT7 ps) B 64 j 0
  dev : DevIs wr a D
theorem Tf.next0 {w wr w2 : World} {bA pb : Nat} {s t : ByteArray} {p q r3 ps lb : Nat} {A T U : ByteArray} {k2 : Nat} {b2 : BkA} {a : DevA} {B : BkS} {j : Nat} {D : DevS} (h : Tf w bA pb s t p q r3 ps lb A T U k2 b2 a B j D wr) (g : Gr [] wr w2) : Tf w bA pb s t p q r3 ps lb A T U k2 b2 a B j D w2 := ⟨h.tn.next0 g, h.li.gr0 g, h.rg.gr0 g, h.dev.gr0 g⟩
theorem was7_get (A T U : ByteArray) {m : Nat} (h : m < 3) : (#[Value.string A, .string T, .string U] : Array Value)[m]? = some (.string (was7 A T U m)) := by
  rcases (show m = 0 ∨ m = 1 ∨ m = 2 by omega) with rfl | rfl | rfl <;> rfl
theorem was7_size {A T U : ByteArray} (hA : A.size = 64) (hT : T.size = 64) (hU : U.size = 64) (m : Nat) : (was7 A T U m).size = 64 := by
  unfold was7
  split
  · exact hA
  · split
    · exact hT
    · exact hU
theorem put_was {A T U : ByteArray} {F : Nat → Nat → Nat} {m : Nat} (h : ∀ i, i < m → ∀ k, k < 8 → F i k = wasF A T U i k) : ∀ i, i < m + 1 → ∀ k, k < 8 → putF F (m : Int) (was7 A T U m) i k = wasF A T U i k := by
  intro i hi k hk
  unfold putF
  by_cases c : i = m
  · subst c
    rw [if_pos rfl]
    rfl
  · rw [if_neg (by omega)]
    exact h i (by omega) k hk
theorem errP_in {l m : Nat} (h : m < l) : errP l (m : Int) = 0 := by unfold errP; rw [if_neg (by omega)]
theorem RgIs.grD {w w' : World} {kb : Nat} {q : BkA} {a : DevA} {P : PlanR} {B : BkS} {m j c : Nat} (h : RgIs w kb q a P B m j c) (g : Gr a.all w w') : RgIs w' kb q a P B m j c := ⟨h.head.gr g h.ka, h.bk.grD g, h.ok, h.kq, h.ka⟩
theorem RR.out {P : PlanR} {kb : Nat} {q : BkA} {a : DevA} {F : Nat → Nat → Nat} {n : Nat} {w : World} (h : RR P kb q a F n w) : ∃ (D : DevS) (j c : Nat), GdR P D j ∧ j ≤ n ∧ (∀ i k, i < P.l → k < 8 → wdR P D j i k = F i k) ∧ RgIs w kb q a P B0 (64 + 192 * n) j c ∧ DevIs w a D ∧ Bd D (12000 + 4200 * n) := h.st
set_option maxRecDepth 100000 in
set_option maxHeartbeats 40000000 in
theorem torn7_law (v : Value) (xs : List Int) (s t : ByteArray) (p q r3 : Nat) {w : World} (hv : SlI .u8 w v xs) (hx : ∀ x ∈ xs, 0 ≤ x ∧ x ≤ 255) (hp : p < 256) (hq : q < 256) (hr : r3 < 256) (hs2 : s.size ≤ 4611686018427387904) (ht2 : t.size ≤ 4611686018427387904) :
    Calls Tryz.prog 4 #[v, .agg #[.string s, .string t], .agg #[.int .u8 (p : Int), .int .u8 (q : Int), .int .u8 (r3 : Int)]] w fun e w' => e = .returned (.bool true) ∧ Gr [] w w' := by
  obtain ⟨i0, hi, hz0, hz1, hz2⟩ := info_parts infoB
  have HIN := Lib.hid (And.intro hi (And.intro hz0 (And.intro hz1 hz2)))
  have HFS := Lib.hid (fun W => full07 s W hs2)
  have HFT := Lib.hid (fun W => full07 t W ht2)
  have HFb := Lib.hid (fun W => full07 ⟨#[98]⟩ W (by show 1 ≤ _; omega))
  have HFc := Lib.hid (fun W => full07 ⟨#[99]⟩ W (by show 1 ≤ _; omega))
  obtain ⟨A, hA⟩ : ∃ A, A = fullS s := ⟨_, rfl⟩
  obtain ⟨I, hI⟩ : ∃ I, I = fullS t := ⟨_, rfl⟩
  obtain ⟨T, hT⟩ : ∃ T, T = fullS ⟨#[98]⟩ := ⟨_, rfl⟩
  obtain ⟨U, hU⟩ : ∃ U, U = fullS ⟨#[99]⟩ := ⟨_, rfl⟩
  have HA := Lib.hid (show A.size = 64 by rw [hA]; exact fullS_size _)
  have HI := Lib.hid (show I.size = 64 by rw [hI]; exact fullS_size _)
  have HT := Lib.hid (show T.size = 64 by rw [hT]; exact fullS_size _)
  have HU := Lib.hid (show U.size = 64 by rw [hU]; exact fullS_size _)
  rw [← hA] at HFS
  rw [← hI] at HFT
  rw [← hT] at HFb
  rw [← hU] at HFc
  have HML := Lib.hid (show (64 : Nat) ≤ maxLen by unfold maxLen; omega)
  have HV := Lib.hid hv
  have HX := Lib.hid hx
  have HPQ := Lib.hid (And.intro hp (And.intro hq hr))
  obtain ⟨ps, hps⟩ : ∃ ps : Nat, ps = 1 + r3 % 3 := ⟨_, rfl⟩
  have hps1 : 1 ≤ ps ∧ ps ≤ 3 := by omega
  obtain ⟨E, P1, P2⟩ := RR.beginN (okPT ps hps1.1 hps1.2) 20 (by show (0 : Int) + sizeZ (bankR (PT7 ps)) ≤ 20; exact (by decide : (0 : Int) + sizeZ ⟨0, 5, 6⟩ ≤ 20))
  have HP1 := Lib.hid P1
  have HP2 := Lib.hid P2
  have HOK := Lib.hid (okPT ps hps1.1 hps1.2)
  have HRG := Lib.hid (fun (W : World) (kb : Nat) (q : BkA) (a : DevA) (h : RR (PT7 ps) kb q a (fun _ _ => 0) 0 W) => h)
  unfold planRV at HP1 HP2
  rw [show (((PT7 ps).l : Nat) : Int) = 3 from rfl, show (PT7 ps).a = 0 from rfl, show (PT7 ps).s = 6 from rfl, show (PT7 ps).psi = (ps : Int) from rfl] at HP1 HP2
  have hpi : 1 + (r3 : Int) % 3 = (ps : Int) := by omega
  have hpw : IntKind.i64.wrap (ps : Int) = (ps : Int) := IntWalk.i64_in _ (by omega)
  clear hi hz0 hz1 hz2 hA hI hT hU hs2 ht2 hv hx hp hq P1 P2 HRG hps hps1
  have HHA := Lib.hid ((Holds.new w #[.string s, .string t] 64).gr0 ((Gr.refl [] _).alloc (Obj.cells #[.int .u8 (p : Int), .int .u8 (q : Int), .int .u8 (r3 : Int)] 65)))
  have HHC := Lib.hid (Holds.new (w.alloc (Obj.cells #[.string s, .string t] 64)) #[.int .u8 (p : Int), .int .u8 (q : Int), .int .u8 (r3 : Int)] 65)
  have HGG := Lib.hid (((Gr.refl [] w).alloc (Obj.cells #[.string s, .string t] 64)).alloc (Obj.cells #[.int .u8 (p : Int), .int .u8 (q : Int), .int .u8 (r3 : Int)] 65))
  go_enter Tryz.func4, Tryz.ntmps4
  go_upto_region 1 with fail
  rw [World.size_alloc] at HHC
  generalize ((w.alloc (Obj.cells #[.string s, .string t] 64)).alloc (Obj.cells #[.int .u8 (p : Int), .int .u8 (q : Int), .int .u8 (r3 : Int)] 65)) = w1 at *
  obtain ⟨bA, hbA⟩ : ∃ bA, w.heap.size = bA := ⟨_, rfl⟩
  have HWB := Lib.hid hbA
  rw [hbA] at HHA HHC ⊢
  clear hbA
  have f2 := HHC.out.cell 2
  go_upto_region 2 with fail
  have hh := Holds.new w1 #[.int .i64 0, .int .i64 3, .int .i64 6, .int .i64 (ps : Int)] 60
  have ga := (Gr.refl [] w1).alloc (Obj.cells #[.int .i64 0, .int .i64 3, .int .i64 6, .int .i64 (ps : Int)] 60)
  have H2 := Lib.hid (And.intro hh (And.intro (HHA.out.gr0 ga) (And.intro (HHC.out.gr0 ga) (HGG.out.trans ga))))
  have HPB := Lib.hid (show bA + 1 < w1.heap.size ∧ w.heap.size ≤ w1.heap.size from ⟨HHC.out.lt, HGG.out.size⟩)
  clear hh ga f2 hpi hpw
  generalize (w1.alloc (Obj.cells #[.int .i64 0, .int .i64 3, .int .i64 6, .int .i64 (ps : Int)] 60)) = w2 at *
  obtain ⟨pb, hpb⟩ : ∃ pb, w1.heap.size = pb := ⟨_, rfl⟩
  rw [hpb] at H2 HPB ⊢
  clear hpb HHA HHC HGG
  go_wp2_with fail
  refine (pmnew_yes 20 _ (by omega) (by omega)).mono ?_
  rintro e w3 ⟨a, rfl, d3, hlo, g3⟩
  have HLO := Lib.hid (show ∀ x ∈ a.all, pb < x from fun x hx => by have := hlo x hx; have := H2.out.1.lt; omega)
  have H3 := Lib.hid (show Tn w bA pb s t p q r3 ps w3 ∧ DevIs w3 a (newD 20) from ⟨⟨H2.out.2.2.2.trans g3, H2.out.2.1.gr0 g3, H2.out.2.2.1.gr0 g3, H2.out.1.gr0 g3, HPB.out.1, HPB.out.2⟩, d3⟩)
  clear d3 g3 hlo H2
  have c0 := H3.out.1.pl.cell 0
  have c1 := H3.out.1.pl.cell 1
  have c2 := H3.out.1.pl.cell 2
  have c3 := H3.out.1.pl.cell 3
  go_wp2_with fail
  refine (HP1.out _ a H3.out.2).mono ?_
  rintro e w4 ⟨rfl, d4, g4⟩
  have H4 := Lib.hid (And.intro (H3.out.1.next g4 HLO.out) d4)
  clear d4 g4 c0 c1 c2 c3 H3
  go_wp2_with fail
  refine (wakes07 _).mono ?_
  rintro e w5 ⟨rfl, g5⟩
  have H5 := Lib.hid (And.intro (H4.out.1.next0 g5) (And.intro (H4.out.2.1.gr0 g5) H4.out.2.2))
  clear g5 H4
  have c0 := H5.out.1.pl.cell 0
  have c1 := H5.out.1.pl.cell 1
  have c2 := H5.out.1.pl.cell 2
  have c3 := H5.out.1.pl.cell 3
  go_wp2_with fail
  refine (HP2.out _ a H5.out.2).mono ?_
  rintro e w6 ⟨kb, bq, rfl, r6, hnew, g6⟩
  have HKN := Lib.hid (show ∀ x ∈ kb :: (bq.all ++ a.all), pb < x from fun x hx => by
    have hl := H5.out.1.pl.lt
    rcases List.mem_cons.1 hx with rfl | hx
    · have := hnew _ (List.mem_cons_self); omega
    · rcases List.mem_append.1 hx with hx | hx
      · have := hnew _ (List.mem_cons_of_mem _ hx); omega
      · exact HLO.out x hx)
  have H6 := Lib.hid (And.intro (H5.out.1.next0 g6) r6)
  clear r6 hnew g6 c0 c1 c2 c3 H5 HP1
  have e0 := H6.out.1.ar.cell 0
  go_wp2_with fail
  refine (HFS.out _).mono ?_
  rintro e w7 ⟨rfl, g7⟩
  have H7 := Lib.hid (And.intro (H6.out.1.next0 g7) (H6.out.2.gr0 g7))
  clear g7 e0 H6
  go_wp2_with fail
  refine (HFb.out _).mono ?_
  rintro e w8 ⟨rfl, g8⟩
  have H8 := Lib.hid (And.intro (H7.out.1.next0 g8) (H7.out.2.gr0 g8))
  clear g8 H7
  go_wp2_with fail
  refine (HFc.out _).mono ?_
  rintro e w9 ⟨rfl, g9⟩
  have H9 := Lib.hid (And.intro (H8.out.1.next0 g9) (H8.out.2.gr0 g9))
  clear g9 H8
  go_upto_region 9 with fail
  have hl := Holds.new w9 #[.string A, .string T, .string U] 9
  have ga := (Gr.refl [] w9).alloc (Obj.cells #[.string A, .string T, .string U] 9)
  have HLN := Lib.hid (show w9.heap.size ∉ kb :: (bq.all ++ a.all) from fun hx => by have := H9.out.2.lt _ hx; omega)
  have H10 := Lib.hid (And.intro (H9.out.1.next0 ga) (And.intro hl (H9.out.2.gr0 ga)))
  clear hl ga H9
  generalize (w9.alloc (Obj.cells #[.string A, .string T, .string U] 9)) = w10 at *
  obtain ⟨lb, hlb⟩ : ∃ lb, w9.heap.size = lb := ⟨_, rfl⟩
  rw [hlb] at H10 HLN ⊢
  clear hlb
  obtain ⟨N, hN⟩ : ∃ N : Nat, N = 1 + r3 % 7 := ⟨_, rfl⟩
  have HN := Lib.hid (show 1 ≤ N ∧ N ≤ 7 by omega)
  have hni : 1 + (r3 : Int) % 7 = (N : Int) := by omega
  have hnw : IntKind.i64.wrap (N : Int) = (N : Int) := IntWalk.i64_in _ (by omega)
  have f2 := H10.out.1.cu.cell 2
  clear hN
  go_upto_region 10 with fail
  clear hni hnw f2
  go_loopw [67] (fun z wr => ∃ (k : Nat) (F : Nat → Nat → Nat), k ≤ N ∧ z = .int .i64 (k : Int) ∧ (1 ≤ k → ∀ i, i < 3 → ∀ j, j < 8 → F i j = wasF A T U i j) ∧ Tn w bA pb s t p q r3 ps wr ∧ Holds wr lb #[.string A, .string T, .string U] 9 ∧ RR (PT7 ps) kb bq a F (3 * k) wr) (fun z _ => N - (intOf z).toNat)
  case atStart => exact ⟨0, _, by omega, rfl, fun h => by omega, H10.out⟩
  case round =>
    clear H10
    obtain ⟨k, F, hk, rfl, hF, hx⟩ := hrel
    have HK := Lib.hid (And.intro hF hx)
    clear hF hx
    by_cases hkN : k < N
    · have ik : (k : Int) < (N : Int) := by omega
      have HKN2 := Lib.hid hkN
      clear hkN
      go_upto_region 12 with fail
      go_loopw [71] (fun z wr => ∃ (m : Nat) (F : Nat → Nat → Nat), m ≤ 3 ∧ z = .int .i64 (m : Int) ∧ (∀ i, i < m → ∀ j, j < 8 → F i j = wasF A T U i j) ∧ Tn w bA pb s t p q r3 ps wr ∧ Holds wr lb #[.string A, .string T, .string U] 9 ∧ RR (PT7 ps) kb bq a F (3 * k + m) wr) (fun z _ => 3 - (intOf z).toNat)
      case atStart => exact ⟨0, F, by omega, rfl, fun i hi => by omega, HK.out.2.1, HK.out.2.2.1, HK.out.2.2.2⟩
      case round =>
        clear HK
        obtain ⟨m, F, hm, rfl, hF, hx⟩ := hrel
        have HK := Lib.hid (And.intro hF hx)
        clear hF hx
        by_cases hm3 : m < 3
        · have im : (m : Int) < 3 := by omega
          have hm0 : (0 : Int) ≤ (m : Int) := by omega
          have e0 := (HK.out.2.2.1.cell m).trans (was7_get A T U hm3)
          have HM3 := Lib.hid hm3
          obtain ⟨S, hS⟩ : ∃ S, S = was7 A T U m := ⟨_, rfl⟩
          rw [← hS] at e0
          have HWr := Lib.hid (HK.out.2.2.2.put (by have := HN.out; have := HKN2.out; omega) (m : Int) S (by rw [hS]; exact was7_size HA.out HT.out HU.out m))
          rw [errP_in (show m < (PT7 ps).l from hm3)] at HWr
          have hw : IntKind.i64.wrap ((m : Int) + 1) = (m : Int) + 1 := IntWalk.i64_in _ (by omega)
          have HS := Lib.hid hS
          clear hm3 hS
          go_wp2_with fail
          refine HWr.out.mono ?_
          rintro e w11 ⟨rfl, r11, g11⟩
          have H11 := Lib.hid (And.intro (HK.out.2.1.next g11 HKN.out) (And.intro (HK.out.2.2.1.gr g11 HLN.out) r11))
          clear r11 g11 e0
          go_wp2_with fail
          go_roundw
          case rel => exact ⟨m + 1, putF F (m : Int) S, by have := HM3.out; omega, by go_num, by rw [HS.out]; exact put_was HK.out.1, H11.out.1, H11.out.2.1, H11.out.2.2⟩
          case measure => have := HM3.out; simp [intOf]; omega
        · obtain rfl : m = 3 := by omega
          have hw : IntKind.i64.wrap ((k : Int) + 1) = (k : Int) + 1 := IntWalk.i64_in _ (by have := HN.out; have := HKN2.out; omega)
          rw [show ((3 : Nat) : Int) = 3 from rfl]
          go_wp2_with fail
          go_roundw
          case rel => exact ⟨k + 1, F, HKN2.out, by go_num, fun _ => HK.out.1, HK.out.2.1, HK.out.2.2.1, HK.out.2.2.2⟩
          case measure => have := HKN2.out; simp [intOf]; omega
    · obtain rfl : k = N := by omega
      have HR := Lib.hid (HK.out.2.2.2.congr (F' := wasF A T U) fun i j hi hj => HK.out.1 HN.out.1 i hi j hj)
      obtain ⟨D, j, c, G1, G2, G3, G4, G5, G6⟩ := HR.out.out
      have HGd := Lib.hid (And.intro G1 (And.intro G2 (And.intro G3 G6)))
      have HK2 := Lib.hid (And.intro HK.out.2.1 (And.intro HK.out.2.2.1 (And.intro G4 G5)))
      clear G1 G2 G3 G4 G5 G6 HR HK
      have ik : ¬ ((k : Int) < (k : Int)) := by omega
      go_upto_region 18 with fail
      clear ik
      obtain ⟨w12, hw12⟩ : ∃ w12, w12 = wr := ⟨_, rfl⟩
      rw [← hw12] at HK2 ⊢
      clear hw12
      go_cut [87, 88, 89] (fun sv nv iv wz => wz = w12 ∧ iv = .int .i64 0 ∧ ∃ (M cap : Nat) (ao : Option Addr), sv = .slice ao M cap ∧ nv = .int .i64 (M : Int) ∧ M ≤ 8 ∧ ∀ k, k < M → ∃ (vb off n : Nat), ao = some ⟨vb, off, none⟩ ∧ n < 256 ∧ vb < w.heap.size ∧ w.cell? ⟨vb, off + k, none⟩ = some (.int .u8 (n : Int)))
      case first =>
        have HVV := HV
        rcases HV.out with ⟨ao, cap, rfl, rfl, hn, hm⟩ | ⟨vb, off, cap, rfl, h1, h2, h3, h4, h5⟩
        · have hmn := minIsT Tryz.prog 0 0 8 8 rfl rfl
          have HNN := Lib.hid hn
          unfold maxLen at hm
          clear hn HVV HV
          cases ao
          case none =>
            obtain rfl := HNN.out rfl
            go_wp2_with fail
            go_meet
            exact ⟨rfl, rfl, 0, 0, none, rfl, rfl, by omega, fun k hk => by omega⟩
          case some ad =>
            go_wp2_with fail
            go_meet
            exact ⟨rfl, rfl, 0, _, _, rfl, rfl, by omega, fun k hk => by omega⟩
        · obtain ⟨M, hM⟩ : ∃ M, M = min xs.length 8 := ⟨_, rfl⟩
          have hmn := minIsT Tryz.prog xs.length M 8 8 rfl hM
          have hM1 : M ≤ xs.length := by omega
          have HM12 := Lib.hid (show M ≤ 8 by omega)
          have HCl := Lib.hid h5
          have HVB := Lib.hid h4
          unfold maxLen at h3
          clear hM h4 h5 HVV HV
          generalize hL : xs.length = L at *
          have HL := Lib.hid hL
          clear hL
          have HML1 := Lib.hid hM1
          go_wp2_with fail
          go_meet
          refine ⟨rfl, rfl, M, _, _, rfl, rfl, HM12.out, fun k hk => ?_⟩
          have hkL : k < xs.length := by have := HML1.out; have := HL.out; omega
          have hx8 := HX.out (xs[k]) (List.getElem_mem hkL)
          refine ⟨vb, off, (xs[k]).toNat, rfl, by omega, HVB.out, ?_⟩
          rw [HCl.out k (xs[k]) (List.getElem?_eq_getElem hkL)]
          congr 2
          omega
      case rest =>
        obtain ⟨rfl, rfl, M, cap, ao, rfl, rfl, hM12, hcl⟩ := hcut
        have HCl := Lib.hid hcl
        clear hcl
        go_wp2_with fail
        go_loopw [89] (fun z wr => ∃ (i : Nat) (bd : Nat → Bool), i ≤ M ∧ z = .int .i64 (i : Int) ∧ bd 0 = false ∧ DevIs wr a { D with bad := bd } ∧ RgIs wr kb bq a (PT7 ps) B0 (64 + 192 * (3 * k)) j c ∧ Tn w bA pb s t p q r3 ps wr ∧ Holds wr lb #[.string A, .string T, .string U] 9) (fun z _ => M - (intOf z).toNat)
        case atStart => exact ⟨0, fun _ => false, by omega, rfl, rfl, by rw [← HGd.out.1.bad]; exact HK2.out.2.2.2, HK2.out.2.2.1, HK2.out.1, HK2.out.2.1⟩
        case round =>
          clear HK2
          obtain ⟨i, bd, hi, rfl, hb1, dk, kk, gk, lk⟩ := hrel
          have HK := Lib.hid (And.intro hb1 (And.intro dk (And.intro kk (And.intro gk lk))))
          clear hb1 dk kk gk lk
          by_cases hiM : i < M
          · obtain ⟨vb, off, n, rfl, hn, hvb, hcell⟩ := HCl.out i hiM
            have ik : (i : Int) < (M : Int) := by omega
            have hi0 : (0 : Int) ≤ (i : Int) := by omega
            have e0 := (HK.out.2.2.2.1.gr.cell0 hvb).trans hcell
            have hm8 : 1 + (n : Int) % 11 = ((1 + n % 11 : Nat) : Int) := by omega
            have HBr := Lib.hid (fun W d => break_in a { D with bad := bd } (1 + n % 11) W d (by
              have h1 := HGd.out.1.fit
              have h2 : (bankR (PT7 ps)).a + sizeZ (bankR (PT7 ps)) = 12 := by show (0 : Int) + sizeZ ⟨0, 5, 6⟩ = 12; decide
              show 1 + n % 11 < D.n
              omega))
            rw [← hm8] at HBr
            have hw : IntKind.i64.wrap ((i : Int) + 1) = (i : Int) + 1 := IntWalk.i64_in _ (by omega)
            have HIM := Lib.hid hiM
            clear hcell hm8 hvb hiM
            go_wp2_with fail
            refine (HBr.out _ HK.out.2.1).mono ?_
            rintro e w13 ⟨rfl, d13, g13⟩
            have g13a : Gr a.all wr w13 := g13.mono (fun b hb => by simp at hb; subst hb; simp [DevA.all])
            have H13 := Lib.hid (And.intro d13 (And.intro (HK.out.2.2.1.grD g13a) (And.intro (HK.out.2.2.2.1.next g13a HLO.out) (HK.out.2.2.2.2.gr g13a (fun hx => HLN.out (by simp [hx]))))))
            clear d13 g13 g13a HBr e0
            go_wp2_with fail
            go_roundw
            case rel => exact ⟨i + 1, fun j => if j = 1 + n % 11 then true else bd j, HIM.out, by go_num, by show (if 0 = 1 + n % 11 then true else bd 0) = false; rw [if_neg (by omega)]; exact HK.out.1, H13.out.1, H13.out.2.1, H13.out.2.2.1, H13.out.2.2.2⟩
            case measure => have := HIM.out; simp [intOf]; omega
          · obtain rfl : i = M := by omega
            have ik : ¬ ((i : Int) < (i : Int)) := by omega
            have f0 := HK.out.2.2.2.1.cu.cell 0
            obtain ⟨Fz, hFz⟩ : ∃ Fz : Nat, 1 + (p : Int) % 120 = (Fz : Int) := ⟨1 + p % 120, by omega⟩
            have HFu := Lib.hid (fuse_any a { D with bad := bd } (Fz : Int) (by have := HPQ.out.1; omega) wr HK.out.2.1)
            have hFw : IntKind.i64.wrap (Fz : Int) = (Fz : Int) := IntWalk.i64_in _ (by omega)
            go_wp2_with fail
            refine HFu.out.mono ?_
            rintro e w14 ⟨rfl, d14, g14⟩
            obtain ⟨D2, hD2⟩ : ∃ D2 : DevS, D2 = { { D with bad := bd } with fuse := mx (Fz : Int) } := ⟨_, rfl⟩
            rw [← hD2] at d14
            obtain ⟨hC, hLv⟩ := RgC.of (E := D2) HOK.out HGd.out.1 HGd.out.2.2.1 (by rw [hD2]) (by rw [hD2]; exact HGd.out.1.calm.off) (by rw [hD2]) (by rw [hD2]) (fun l q1 q2 => by
              have q2' : (l : Int) < 0 + (6 + 7) / 8 := q2
              obtain rfl : l = 0 := by omega
              rw [hD2]
              exact HK.out.1)
            have hbd : Bd D2 120000 := by rw [hD2]; exact HGd.out.2.2.2.mono (by have := HN.out; omega)
            have hn2 : D2.n = D.n := by rw [hD2]
            have HD2 := Lib.hid (And.intro hC (And.intro hLv (And.intro hbd hn2)))
            have g14a : Gr a.all wr w14 := g14.mono (fun b hb => by simp at hb; subst hb; simp [DevA.all])
            have H14 := Lib.hid (And.intro d14 (And.intro (HK.out.2.2.1.grD g14a) (And.intro (HK.out.2.2.2.1.next g14a HLO.out) (HK.out.2.2.2.2.gr g14a (fun hx => HLN.out (by simp [hx]))))))
            clear d14 hbd g14 g14a hC hLv hn2 hD2 HFu hFz hFw f0 HK ik
            have e1 := H14.out.2.2.1.ar.cell 1
            go_wp2_with fail
            refine (HFT.out _).mono ?_
            rintro e w15 ⟨rfl, g15⟩
            have H15 := Lib.hid (And.intro (H14.out.1.gr0 g15) (And.intro (H14.out.2.1.gr0 g15) (And.intro (H14.out.2.2.1.next0 g15) (H14.out.2.2.2.gr0 g15))))
            clear g15 e1 H14
            have hmb := H15.out.1.ok.medB
            have hfit2 : (bankR (PT7 ps)).a + sizeZ (bankR (PT7 ps)) ≤ (D2.n : Int) := by rw [HD2.out.2.2.2]; exact HGd.out.1.fit
            have hj9 : j < 4294967295 := by have := HGd.out.2.1; have := HN.out; omega
            obtain ⟨mv1, mv2, mv3, _⟩ := move_last HOK.out HD2.out.2.1 hmb HD2.out.1 hj9
            obtain ⟨x1, x2, x3⟩ := reg_last (i0 := 0) HOK.out HD2.out.2.1 hmb HD2.out.1 hj9 (show 0 < (PT7 ps).l from (by decide : 0 < 3)) HI.out c
            have HWr := Lib.hid (rgwrite_any 0 I H15.out.2.1 H15.out.1 HD2.out.2.2.1 (by omega) (by have := HN.out; omega) (show 0 < (PT7 ps).l from (by decide : 0 < 3)) HI.out hj9 hfit2 (fun _ => ⟨mv1, mv2, mv3⟩))
            rw [show ((0 : Nat) : Int) = 0 from rfl] at HWr
            obtain ⟨X, hX⟩ : ∃ X, X = regZ (PT7 ps) 0 (fun z => writeS (bankR (PT7 ps)) z I) D2 B0 j c := ⟨_, rfl⟩
            rw [← hX] at HWr x1 x2 x3
            obtain ⟨ec, E2, B2, j2, c2⟩ := X
            unfold RgPost at HWr
            simp only at HWr x1 x2 x3
            have HXX := Lib.hid (And.intro x1 (And.intro x2 x3))
            clear hmb hfit2 hj9 mv1 mv2 mv3 x1 x2 x3 hX
            go_wp2_with fail
            refine HWr.out.mono ?_
            rintro e w16 ⟨rfl, d16, b16, r16, g16⟩
            have H16 := Lib.hid (And.intro d16 (And.intro b16 (And.intro (H15.out.2.2.1.next g16 HKN.out) (H15.out.2.2.2.gr g16 HLN.out))))
            clear d16 b16 r16 g16 HWr H15
            obtain ⟨kf, hkf⟩ : ∃ kf : Nat → Bool, ∀ k, kf k = (bits .and .u8 ((q : Int) / 2 ^ k) 1 == 1) := ⟨fun k => (bits .and .u8 ((q : Int) / 2 ^ k) 1 == 1), fun _ => rfl⟩
            have HKF := Lib.hid hkf
            clear hkf
            go_upto_region 27 with fail
            go_loopw [18, 112] (fun v z wr => ∃ k : Nat, k ≤ 8 ∧ z = .int .i64 (k : Int) ∧ wr.ownsRow w16.heap.size 4 1 v k ((List.range k).map fun j => .bool (kf j)) ∧ Gr [] w16 wr) (fun _ z _ => 8 - (intOf z).toNat)
            case atStart => exact ⟨0, by omega, rfl, World.ownsRow_nil _ _ _ _, Gr.refl _ _⟩
            case round =>
              obtain ⟨k8, hk, rfl, hown, g⟩ := hrel
              by_cases hlt : k8 < 8
              · have hd : decide ((k8 : Int) < 8) = true := by simp; omega
                have e1 : wr.cell? ⟨bA + 1, 1, none⟩ = some (.int .u8 (q : Int)) := (H16.out.2.2.1.cu.gr0 g).cell 1
                have hsz := g.size
                have HG := Lib.hid (And.intro hown g)
                clear g
                obtain ⟨hi, hz0, hz1, hz2⟩ := HIN.out
                go_wp2_with (at_builtin; refine wpList_append_own _ rfl _ _ 38 rfl w16.heap.size 4 i0 (.bool false) 1 1 Tryz.underlying38 hi hz0 hz1 hz2 rfl (by decide) _ _ _ rfl (hown.alloc _) ⟨wr.heap.size, 0, none⟩ 1 1 [.bool (bits .and .u8 ((q : Int) / 2 ^ k8) 1 == 1)] rfl rfl ?c1 ?c2 ?c3 ?c4 ?c5 ?_)
                case c1 =>
                  intro a u ha
                  match a, ha with
                  | 0, ha => simp at ha; subst ha; simp [Addr.add]
                case c2 => intro u hu; simp at hu; subst hu; rfl
                case c3 => unfold maxLen; omega
                case c4 => omega
                case c5 => simp; omega
                intro v' w17 hown3 hgrow _
                have HN2 := Lib.hid (show w17.ownsRow w16.heap.size 4 1 v' (k8 + 1) ((List.range (k8 + 1)).map fun j => .bool (kf j)) ∧ Gr [] w16 w17 from by
                  refine ⟨?_, ?_⟩
                  · rw [List.range_succ, List.map_append]
                    show w17.ownsRow w16.heap.size 4 1 v' (k8 + 1) (_ ++ [.bool (kf k8)])
                    rw [HKF.out k8]
                    exact hown3
                  · exact ((HG.out.2.alloc _).grown hgrow (fun x hx => .inr (hown.lt x hx).1)))
                clear hown3 hgrow hown e1 hi hz0 hz1 hz2
                go_wp2_with fail
                go_roundw
                case rel => exact ⟨k8 + 1, by omega, by go_num, HN2.out.1, HN2.out.2⟩
                case measure => simp [intOf]; omega
              · obtain rfl : k8 = 8 := by omega
                have HKP := Lib.hid (keep_of hown)
                have H17 := Lib.hid (And.intro (H16.out.1.gr0 g) (And.intro H16.out.2.1 (And.intro (H16.out.2.2.1.next0 g) (H16.out.2.2.2.gr0 g))))
                clear hown g HKF H16
                rw [show ((8 : Nat) : Int) = 8 from rfl]
                obtain ⟨w17, hw17⟩ : ∃ w17, w17 = wr := ⟨_, rfl⟩
                rw [← hw17] at HKP H17 ⊢
                clear hw17
                have HBt := Lib.hid (boot_any a E2 _ 8 _ w17 H17.out.1 HKP.out (fun l => by have := H17.out.2.1.2 l; omega) (by have := H17.out.2.1.1; omega))
                go_wp2_with fail
                refine HBt.out.mono ?_
                rintro e w18 ⟨rfl, ⟨L, hL, d18⟩, g18⟩
                obtain ⟨hec, hEn, hbt⟩ := HXX.out
                obtain ⟨B3, j3, hj3, hrd⟩ := hbt L _ hL
                have hmb := d18.ok.medB
                obtain ⟨TR, tr1, tr2, tr3⟩ := hrd.regr HOK.out hmb
                obtain ⟨got, go1, go2, Hg, go3, go4⟩ := hrd.mine HOK.out hmb (show 0 < (PT7 ps).l from (by decide : 0 < 3))
                have hr1 := hrd.other HOK.out hmb (i := 1) (show 1 < (PT7 ps).l from (by decide : 1 < 3)) (by omega) HT.out (fun _ _ => rfl)
                have hr2 := hrd.other HOK.out hmb (i := 2) (show 2 < (PT7 ps).l from (by decide : 2 < 3)) (by omega) HU.out (fun _ _ => rfl)
                have H18 := Lib.hid (And.intro d18 (And.intro (H17.out.2.2.1.next g18 HLO.out) (H17.out.2.2.2.gr g18 (fun hx => HLN.out (by simp [hx])))))
                have hop := hrd.ti.opens
                have hck := hrd.check HOK.out
                have hoff := hrd.ti.calm.off
                have hfit := hrd.ti.fits
                have hgot : (ec = 0 → got = I) ∧ (ec = 10 → got = A) ∧ mixB A I got = true := by
                  refine ⟨fun q => bytes_eq go2 HI.out fun k hk => (go4 k hk).trans (go3.1 q k hk), fun q => bytes_eq go2 HA.out fun k hk => (go4 k hk).trans (go3.2.1 q k hk), mixB_of HA.out HI.out go2 fun k hk => ?_⟩
                  rw [go4 k hk]
                  exact go3.2.2 k hk
                have HGt := Lib.hid (And.intro go2 hgot)
                have hj4 : j3 ≤ 4294967295 := by have := HGd.out.2.1; have := HN.out; omega
                obtain ⟨D18, hD18⟩ : ∃ D18, D18 = bootD E2 L (fun j => if j < 8 then kf j else false) := ⟨_, rfl⟩
                rw [← hD18] at H18 hop hck hoff hfit tr1 go1 hr1 hr2
                have HOp := Lib.hid (fun W (d : DevIs W a D18) => show Calls Tryz.prog 20 #[.pointer (some ⟨a.bd, 0, none⟩), .agg #[.int .i64 0, .int .i64 3, .int .i64 6, .int .i64 (ps : Int)]] W _ from rgopen_ok (P := PT7 ps) HOK.out d hoff hck hop tr1 tr2 tr3 hj4)
                have HRd := Lib.hid (And.intro hfit (And.intro go1 (And.intro hr1 hr2)))
                clear d18 g18 hL hbt hrd hmb tr1 tr2 tr3 go1 go2 go3 go4 hr1 hr2 hop hck hoff hfit hgot hj3 hj4 hD18 HBt HKP H17 HXX hEn
                have c0 := H18.out.2.1.pl.cell 0
                have c1 := H18.out.2.1.pl.cell 1
                have c2 := H18.out.2.1.pl.cell 2
                have c3 := H18.out.2.1.pl.cell 3
                go_wp2_with fail
                refine (HOp.out _ H18.out.1).mono ?_
                rintro e w19 ⟨k2, b2, rfl, r19, -, g19⟩
                have HR0 := Lib.hid (fun W (g : RgIs W k2 b2 a (PT7 ps) B3 64 j3 0) (d : DevIs W a D18) => rgread_any 0 (show 0 < (PT7 ps).l from (by decide : 0 < 3)) g d HRd.out.1)
                have HR1 := Lib.hid (fun W (g : RgIs W k2 b2 a (PT7 ps) B3 64 j3 0) (d : DevIs W a D18) => rgread_any 1 (show 1 < (PT7 ps).l from (by decide : 1 < 3)) g d HRd.out.1)
                have HR2 := Lib.hid (fun W (g : RgIs W k2 b2 a (PT7 ps) B3 64 j3 0) (d : DevIs W a D18) => rgread_any 2 (show 2 < (PT7 ps).l from (by decide : 2 < 3)) g d HRd.out.1)
                rw [HRd.out.2.1] at HR0
                rw [HRd.out.2.2.1] at HR1
                rw [HRd.out.2.2.2] at HR2
                rw [show ((0 : Nat) : Int) = 0 from rfl] at HR0
                rw [show ((1 : Nat) : Int) = 1 from rfl] at HR1
                rw [show ((2 : Nat) : Int) = 2 from rfl] at HR2
                have H19 := Lib.hid (show Tf w bA pb s t p q r3 ps lb A T U k2 b2 a B3 j3 D18 w19 from ⟨H18.out.2.1.next0 g19, H18.out.2.2.gr0 g19, r19, H18.out.1.gr0 g19⟩)
                clear r19 g19 c0 c1 c2 c3 HOp H18 HRd
                rcases hec with rfl | rfl | rfl
                · as_aux_lemma =>
                    obtain rfl : got = I := HGt.out.2.1 rfl
                    go_upto_region 36 with fail
                    go_loopw [154] (fun z wr => ∃ i : Nat, i ≤ 3 ∧ z = .int .i64 (i : Int) ∧ Tf w bA pb s t p q r3 ps lb A T U k2 b2 a B3 j3 D18 wr) (fun z _ => 3 - (intOf z).toNat)
                    case atStart => exact ⟨0, by omega, rfl, H19.out⟩
                    case round =>
                      clear H19
                      obtain ⟨i, hi, rfl, ht⟩ := hrel
                      have HT9 := Lib.hid ht
                      clear ht
                      rcases (show i = 0 ∨ i = 1 ∨ i = 2 ∨ i = 3 by omega) with rfl | rfl | rfl | rfl
                      · skip
                        have e0 := HT9.out.li.cell 0
                        rw [show ((0 : Nat) : Int) = 0 from rfl]
                        go_wp2_with fail
                        refine (HR0.out _ HT9.out.rg HT9.out.dev).mono ?_
                        rintro e w20 ⟨rfl, g20⟩
                        have H20 := Lib.hid (HT9.out.next0 g20)
                        clear g20 e0 HT9
                        have e1 := H20.out.tn.ar.cell 1
                        go_wp2_with fail
                        refine (HFT.out _).mono ?_
                        rintro e w21 ⟨rfl, g21⟩
                        have H21 := Lib.hid (H20.out.next0 g21)
                        clear g21 e1 H20
                        have HMi := Lib.hid (mixed_any A got got w21 (by rw [HA.out]; exact HML.out) (by rw [HI.out]; exact HML.out) (by rw [HGt.out.1]; exact HML.out))
                        rw [HGt.out.2.2.2] at HMi
                        go_wp2_with fail
                        refine HMi.out.mono ?_
                        rintro e w22 ⟨rfl, g22⟩
                        have H22 := Lib.hid (H21.out.next0 g22)
                        clear g22 HMi H21
                        have e1 := H22.out.tn.ar.cell 1
                        go_wp2_with fail
                        refine (HFT.out _).mono ?_
                        rintro e w23 ⟨rfl, g23⟩
                        have H23 := Lib.hid (H22.out.next0 g23)
                        clear g23 e1 H22
                        go_wp2_with fail
                        go_roundw
                        case rel => exact ⟨1, by omega, by go_num, H23.out⟩
                        case measure => simp [intOf]
                      · skip
                        have e0 := HT9.out.li.cell 1
                        rw [show ((1 : Nat) : Int) = 1 from rfl]
                        go_wp2_with fail
                        refine (HR1.out _ HT9.out.rg HT9.out.dev).mono ?_
                        rintro e w20 ⟨rfl, g20⟩
                        have H20 := Lib.hid (HT9.out.next0 g20)
                        clear g20 e0 HT9
                        go_wp2_with fail
                        go_roundw
                        case rel => exact ⟨2, by omega, by go_num, H20.out⟩
                        case measure => simp [intOf]
                      · skip
                        have e0 := HT9.out.li.cell 2
                        rw [show ((2 : Nat) : Int) = 2 from rfl]
                        go_wp2_with fail
                        refine (HR2.out _ HT9.out.rg HT9.out.dev).mono ?_
                        rintro e w20 ⟨rfl, g20⟩
                        have H20 := Lib.hid (HT9.out.next0 g20)
                        clear g20 e0 HT9
                        go_wp2_with fail
                        go_roundw
                        case rel => exact ⟨3, by omega, by go_num, H20.out⟩
                        case measure => simp [intOf]
                      · rw [show ((3 : Nat) : Int) = 3 from rfl]
                        go_wp2_with fail
                        go_ret
                        exact ⟨rfl, HT9.out.tn.gr⟩
                · as_aux_lemma =>
                    obtain rfl : got = A := HGt.out.2.2.1 rfl
                    go_upto_region 36 with fail
                    go_loopw [154] (fun z wr => ∃ i : Nat, i ≤ 3 ∧ z = .int .i64 (i : Int) ∧ Tf w bA pb s t p q r3 ps lb got T U k2 b2 a B3 j3 D18 wr) (fun z _ => 3 - (intOf z).toNat)
                    case atStart => exact ⟨0, by omega, rfl, H19.out⟩
                    case round =>
                      clear H19
                      obtain ⟨i, hi, rfl, ht⟩ := hrel
                      have HT9 := Lib.hid ht
                      clear ht
                      rcases (show i = 0 ∨ i = 1 ∨ i = 2 ∨ i = 3 by omega) with rfl | rfl | rfl | rfl
                      · skip
                        have e0 := HT9.out.li.cell 0
                        rw [show ((0 : Nat) : Int) = 0 from rfl]
                        go_wp2_with fail
                        refine (HR0.out _ HT9.out.rg HT9.out.dev).mono ?_
                        rintro e w20 ⟨rfl, g20⟩
                        have H20 := Lib.hid (HT9.out.next0 g20)
                        clear g20 e0 HT9
                        have e1 := H20.out.tn.ar.cell 1
                        go_wp2_with fail
                        refine (HFT.out _).mono ?_
                        rintro e w21 ⟨rfl, g21⟩
                        have H21 := Lib.hid (H20.out.next0 g21)
                        clear g21 e1 H20
                        have HMi := Lib.hid (mixed_any got I got w21 (by rw [HA.out]; exact HML.out) (by rw [HI.out]; exact HML.out) (by rw [HGt.out.1]; exact HML.out))
                        rw [HGt.out.2.2.2] at HMi
                        go_wp2_with fail
                        refine HMi.out.mono ?_
                        rintro e w22 ⟨rfl, g22⟩
                        have H22 := Lib.hid (H21.out.next0 g22)
                        clear g22 HMi H21
                        have e1 := H22.out.tn.ar.cell 1
                        go_wp2_with fail
                        go_roundw
                        case rel => exact ⟨1, by omega, by go_num, H22.out⟩
                        case measure => simp [intOf]
                      · skip
                        have e0 := HT9.out.li.cell 1
                        rw [show ((1 : Nat) : Int) = 1 from rfl]
                        go_wp2_with fail
                        refine (HR1.out _ HT9.out.rg HT9.out.dev).mono ?_
                        rintro e w20 ⟨rfl, g20⟩
                        have H20 := Lib.hid (HT9.out.next0 g20)
                        clear g20 e0 HT9
                        go_wp2_with fail
                        go_roundw
                        case rel => exact ⟨2, by omega, by go_num, H20.out⟩
                        case measure => simp [intOf]
                      · skip
                        have e0 := HT9.out.li.cell 2
                        rw [show ((2 : Nat) : Int) = 2 from rfl]
                        go_wp2_with fail
                        refine (HR2.out _ HT9.out.rg HT9.out.dev).mono ?_
                        rintro e w20 ⟨rfl, g20⟩
                        have H20 := Lib.hid (HT9.out.next0 g20)
                        clear g20 e0 HT9
                        go_wp2_with fail
                        go_roundw
                        case rel => exact ⟨3, by omega, by go_num, H20.out⟩
                        case measure => simp [intOf]
                      · rw [show ((3 : Nat) : Int) = 3 from rfl]
                        go_wp2_with fail
                        go_ret
                        exact ⟨rfl, HT9.out.tn.gr⟩
                · as_aux_lemma =>
                    go_upto_region 36 with fail
                    go_loopw [154] (fun z wr => ∃ i : Nat, i ≤ 3 ∧ z = .int .i64 (i : Int) ∧ Tf w bA pb s t p q r3 ps lb A T U k2 b2 a B3 j3 D18 wr) (fun z _ => 3 - (intOf z).toNat)
                    case atStart => exact ⟨0, by omega, rfl, H19.out⟩
                    case round =>
                      clear H19
                      obtain ⟨i, hi, rfl, ht⟩ := hrel
                      have HT9 := Lib.hid ht
                      clear ht
                      rcases (show i = 0 ∨ i = 1 ∨ i = 2 ∨ i = 3 by omega) with rfl | rfl | rfl | rfl
                      · skip
                        have e0 := HT9.out.li.cell 0
                        rw [show ((0 : Nat) : Int) = 0 from rfl]
                        go_wp2_with fail
                        refine (HR0.out _ HT9.out.rg HT9.out.dev).mono ?_
                        rintro e w20 ⟨rfl, g20⟩
                        have H20 := Lib.hid (HT9.out.next0 g20)
                        clear g20 e0 HT9
                        have e1 := H20.out.tn.ar.cell 1
                        go_wp2_with fail
                        refine (HFT.out _).mono ?_
                        rintro e w21 ⟨rfl, g21⟩
                        have H21 := Lib.hid (H20.out.next0 g21)
                        clear g21 e1 H20
                        have HMi := Lib.hid (mixed_any A I got w21 (by rw [HA.out]; exact HML.out) (by rw [HI.out]; exact HML.out) (by rw [HGt.out.1]; exact HML.out))
                        rw [HGt.out.2.2.2] at HMi
                        go_wp2_with fail
                        refine HMi.out.mono ?_
                        rintro e w22 ⟨rfl, g22⟩
                        have H22 := Lib.hid (H21.out.next0 g22)
                        clear g22 HMi H21
                        have e1 := H22.out.tn.ar.cell 1
                        go_wp2_with fail
                        go_roundw
                        case rel => exact ⟨1, by omega, by go_num, H22.out⟩
                        case measure => simp [intOf]
                      · skip
                        have e0 := HT9.out.li.cell 1
                        rw [show ((1 : Nat) : Int) = 1 from rfl]
                        go_wp2_with fail
                        refine (HR1.out _ HT9.out.rg HT9.out.dev).mono ?_
                        rintro e w20 ⟨rfl, g20⟩
                        have H20 := Lib.hid (HT9.out.next0 g20)
                        clear g20 e0 HT9
                        go_wp2_with fail
                        go_roundw
                        case rel => exact ⟨2, by omega, by go_num, H20.out⟩
                        case measure => simp [intOf]
                      · skip
                        have e0 := HT9.out.li.cell 2
                        rw [show ((2 : Nat) : Int) = 2 from rfl]
                        go_wp2_with fail
                        refine (HR2.out _ HT9.out.rg HT9.out.dev).mono ?_
                        rintro e w20 ⟨rfl, g20⟩
                        have H20 := Lib.hid (HT9.out.next0 g20)
                        clear g20 e0 HT9
                        go_wp2_with fail
                        go_roundw
                        case rel => exact ⟨3, by omega, by go_num, H20.out⟩
                        case measure => simp [intOf]
                      · rw [show ((3 : Nat) : Int) = 3 from rfl]
                        go_wp2_with fail
                        go_ret
                        exact ⟨rfl, HT9.out.tn.gr⟩
theorem walk_RingTorn (v : Value) (xs : List Int) (a1 : List ByteArray) (a2 : List Int) {w : World} (h : SlI .u8 w v xs) (hx : ∀ x ∈ xs, (Lit.int .u8 x).wf = true) (l1 : a1.length = 2) (w1 : ∀ x ∈ a1, x.size ≤ maxLen ∧ x.size ≤ reachBytes) (l2 : a2.length = 3) (w2 : ∀ x ∈ a2, (Lit.int .u8 x).wf = true) :
    Calls Tryz.prog 4 #[v, .agg (a1.map Value.string).toArray, .agg (a2.map (Value.int .u8)).toArray] w fun e w' => e = .returned (.bool true) ∧ Below w.heap.size w w' := by
  obtain ⟨s, t, rfl⟩ : ∃ s t, a1 = [s, t] := by
    match a1, l1 with
    | [s, t], _ => exact ⟨s, t, rfl⟩
  obtain ⟨x, y, z, rfl⟩ : ∃ x y z, a2 = [x, y, z] := by
    match a2, l2 with
    | [x, y, z], _ => exact ⟨x, y, z, rfl⟩
  obtain ⟨p, rfl, hp⟩ := natU8 (w2 x (by simp))
  obtain ⟨q, rfl, hq⟩ := natU8 (w2 y (by simp))
  obtain ⟨r, rfl, hr⟩ := natU8 (w2 z (by simp))
  exact (torn7_law v xs s t p q r h (fun x hx2 => bounds_u8 (hx x hx2)) hp hq hr (Nat.le_trans (w1 s (by simp)).2 (by decide)) (Nat.le_trans (w1 t (by simp)).2 (by decide))).mono fun _ _ q => ⟨q.1, q.2.below0⟩

end Go.Proofs.YtdgcninmpcmdcaaGreat
