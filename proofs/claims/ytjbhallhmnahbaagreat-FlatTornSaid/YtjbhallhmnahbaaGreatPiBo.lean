/-
  FlatTorn.
-/
import Derived.Test.YtjbhallhmnahbaaGreatPiBn
import Derived.Test.YtjbhallhmnahbaaGreatPiAa
import Derived.Deep.CutBlock
import Derived.Deep.RegionHeld3

namespace Go.Proofs.YtjbhallhmnahbaaGreat
open Go.RowKit
set_option linter.unusedVariables false

/-- The list of bools that Boot is given. -/
structure Kb (g cap : Nat) (kf : Nat → Bool) (W : World) : Prop where
  cells : ∀ j, j < 16 → W.cell? ⟨g, j, none⟩ = some (.bool (kf j))
  lt : g < W.heap.size
  cp : 16 ≤ maxLen
theorem Kb.gr {g cap : Nat} {kf : Nat → Bool} {W W' : World} {bs : List Nat} (h : Kb g cap kf W) (k : Gr bs W W') (hn : g ∉ bs) : Kb g cap kf W' :=
  ⟨fun j hj => (World.cell?_of_block (w := W) (k.block g h.lt hn)).trans (h.cells j hj), Nat.lt_of_lt_of_le h.lt k.size, h.cp⟩
theorem Kb.keep {g cap : Nat} {kf : Nat → Bool} {W : World} (h : Kb g cap kf W) : KeepIs W (.slice (some ⟨g, 0, none⟩) 16 cap) 16 (fun j => if j < 16 then kf j else false) :=
  ⟨some ⟨g, 0, none⟩, cap, rfl, fun j hj => ⟨g, 0, rfl, h.lt, by rw [Nat.zero_add, h.cells j hj]; show _ = some (Value.bool (if j < 16 then kf j else false)); rw [if_pos hj]⟩, fun j hj => if_neg (by omega), h.cp⟩
theorem keep_of16 {w0 w1 : World} {v : Value} {kf : Nat → Bool} (h : w1.ownsRow w0.heap.size 4 1 v 16 ((List.range 16).map fun j => .bool (kf j))) : ∃ g cap, v = .slice (some ⟨g, 0, none⟩) 16 cap ∧ w0.heap.size ≤ g ∧ Kb g cap kf w1 := by
  have hcells := fun g (hg : v.ownBlock = some g) => h.cells hg
  have hlow := fun g (hg : v.ownBlock = some g) => h.lt g hg
  rcases h.2 with ⟨_, h0⟩ | ⟨g, cap, cur, rfl, hg, hh, _⟩
  · omega
  · refine ⟨g, cap, rfl, (hlow g rfl).1, fun j hj => ?_, (Array.getElem?_eq_some_iff.1 hh).1, by unfold maxLen; omega⟩
    have := hcells g rfl j (.bool (kf j)) (by rw [List.getElem?_map, List.getElem?_range hj]; rfl)
    rw [addp] at this
    rw [← this]
/-- What the law keeps: its boxes, its config. -/
structure Tq (w : World) (bA pb : Nat) (C : CfgZ) (s t : ByteArray) (p q r3 : Nat) (wr : World) : Prop where
  gr : Gr [] w wr
  ar : Holds wr (bA + 1) #[.string s, .string t] 91
  cu : Holds wr (bA + 1 + 1) #[.int .u16 (p : Int), .int .u16 (q : Int), .int .u16 (r3 : Int)] 93
  pl : Holds wr pb #[.int .i64 C.r, .int .i64 C.l, .int .i64 C.s, .int .i64 C.psi, .int .u64 (C.key : Int)] 37
  l1 : bA + 2 < pb
  l2 : w.heap.size ≤ bA
theorem Tq.next {w wr w2 : World} {bA pb : Nat} {C : CfgZ} {s t : ByteArray} {p q r3 : Nat} (h : Tq w bA pb C s t p q r3 wr) {bs : List Nat} (g : Gr bs wr w2) (hb : ∀ x ∈ bs, pb < x) : Tq w bA pb C s t p q r3 w2 := by
  have h1 := h.l1
  have h2 := h.l2
  exact ⟨h.gr.nextN g fun x hx => .inr (by have := hb x hx; omega), h.ar.gr g fun hx => by have := hb _ hx; omega, h.cu.gr g fun hx => by have := hb _ hx; omega, h.pl.gr g fun hx => by have := hb _ hx; omega, h1, h2⟩
theorem Tq.next0 {w wr w2 : World} {bA pb : Nat} {C : CfgZ} {s t : ByteArray} {p q r3 : Nat} (h : Tq w bA pb C s t p q r3 wr) (g : Gr [] wr w2) : Tq w bA pb C s t p q r3 w2 := h.next g (by simp)
/-- Behind the list of bools. -/
structure Tk (w : World) (bA pb : Nat) (C : CfgZ) (s t : ByteArray) (p q r3 g cap : Nat) (kf : Nat → Bool) (wr : World) : Prop where
  tq : Tq w bA pb C s t p q r3 wr
  kb : Kb g cap kf wr
  lg : pb < g
section
variable {w wr w2 : World} {bA pb : Nat} {C : CfgZ} {s t : ByteArray} {p q r3 g cap : Nat} {kf : Nat → Bool}
theorem Tk.next (h : Tk w bA pb C s t p q r3 g cap kf wr) {bs : List Nat} (k : Gr bs wr w2) (hb : ∀ x ∈ bs, pb < x ∧ x ≠ g) : Tk w bA pb C s t p q r3 g cap kf w2 :=
  ⟨h.tq.next k fun x hx => (hb x hx).1, h.kb.gr k fun hx => (hb _ hx).2 rfl, h.lg⟩
theorem Tk.next0 (h : Tk w bA pb C s t p q r3 g cap kf wr) (k : Gr [] wr w2) : Tk w bA pb C s t p q r3 g cap kf w2 := h.next k (by simp)
end
/-- The first m lines have these words, the others none. -/
def oneF (S : ByteArray) (m : Nat) : Nat → Nat → Nat := fun i k => if i < m then wdL S.data.toList k else 0
theorem mixB_got {C : CfgZ} {A : FlA} {a : DevA} {F : Nat → Nat → Nat} {H : Nat → Nat} {V : FlV} {N : Nat} {w : World} {l : Nat} {x : Int} {S T : ByteArray} (h : FL C A a true (fun l2 k => if l2 = l then H k else F l2 k) V N w) (hl : l < cR C * cL C) (hS : S.size = 64) (hT : T.size = 64) (hF : ∀ i k, i < cR C * cL C → k < 8 → F i k = wdL S.data.toList k) (hG : GotL (F l) T x H) :
    (∀ i, i < cR C * cL C → i ≠ l → lnF (fun l2 k => if l2 = l then H k else F l2 k) i = S) ∧ (lnF (fun l2 k => if l2 = l then H k else F l2 k) l).size = 64 ∧ (x = 0 → lnF (fun l2 k => if l2 = l then H k else F l2 k) l = T) ∧ mixB S T (lnF (fun l2 k => if l2 = l then H k else F l2 k) l) = true := by
  obtain ⟨z1, z2⟩ := h.size l hl
  have hw : ∀ k, k < 8 → wdL (lnF (fun l2 k => if l2 = l then H k else F l2 k) l).data.toList k = H k := fun k hk => (z2 k hk).trans (if_pos rfl)
  obtain ⟨g1, g2, g3⟩ := hG
  refine ⟨fun i hi hne => lnF_is h hi hS fun k hk => by rw [if_neg hne]; exact hF i k hi hk, z1, fun e => bytes_eq z1 hT fun k hk => (hw k hk).trans (g1 e k hk), mixB_of hS hT z1 fun k hk => ?_⟩
  rw [hw k hk, ← hF l k hl hk]
  exact g3 k hk
set_option maxRecDepth 100000 in
set_option maxHeartbeats 40000000 in
theorem ftorn_law (x0 x1 x2 x3 : Int) (x4 : Nat) (s t : ByteArray) (p q r3 : Nat) {w : World} (hx4 : x4 < 18446744073709551616) (hp : p < 65536) (hq : q < 65536) (hr : r3 < 65536) (hs2 : s.size ≤ 4611686018427387904) (ht2 : t.size ≤ 4611686018427387904) :
    Calls Tryz.prog 6 #[.agg #[.int .i64 x0, .int .i64 x1, .int .i64 x2, .int .i64 x3, .int .u64 (x4 : Int)], .agg #[.string s, .string t], .agg #[.int .u16 (p : Int), .int .u16 (q : Int), .int .u16 (r3 : Int)]] w fun e w' => e = .returned (.bool true) ∧ Gr [] w w' := by
  obtain ⟨i0, hi, hz0, hz1, hz2⟩ := info_parts infoB
  have HIN := Lib.hid (And.intro hi (And.intro hz0 (And.intro hz1 hz2)))
  have HML := Lib.hid (show (64 : Nat) ≤ maxLen by unfold maxLen; omega)
  have HSx := Lib.hid (fun W => small09 x0 x1 x2 x3 x4 W)
  obtain ⟨C, hC⟩ : ∃ C, C = smallC x0 x1 x2 x3 x4 := ⟨_, rfl⟩
  have hok := smallC_ok x0 x1 x2 x3 x4 hx4
  have hpos := smallC_pos x0 x1 x2 x3 x4 hx4
  rw [← hC] at HSx hok hpos
  unfold cfgV at HSx
  have HSz := Lib.hid (fun W => show Calls Tryz.prog 37 #[.agg #[.int .i64 C.r, .int .i64 C.l, .int .i64 C.s, .int .i64 C.psi, .int .u64 (C.key : Int)]] W (fun e w' => e = .returned (.int .i64 (sizeC C)) ∧ Gr [] W w') from csize_any C hok.1.wf.1 W)
  obtain ⟨n, hn⟩ : ∃ n : Nat, (n : Int) = sizeC C := ⟨(sizeC C).toNat, by omega⟩
  have HN := Lib.hid (show 1 ≤ n ∧ n ≤ 37 ∧ sizeC C ≤ (n : Int) by exact ⟨by omega, by omega, by omega⟩)
  rw [← hn] at HSz
  have hRL : cR C ≤ 3 ∧ cL C ≤ 5 ∧ 1 ≤ cR C ∧ 1 ≤ cL C := by
    have := hok.1.nums
    unfold cR cL
    omega
  obtain ⟨L, hL⟩ : ∃ L, L = cR C * cL C := ⟨_, rfl⟩
  have HL := Lib.hid (show 1 ≤ L ∧ L ≤ 15 by
    have a1 : cR C * cL C ≤ 3 * 5 := Nat.mul_le_mul hRL.1 hRL.2.1
    have a2 : 1 * 1 ≤ cR C * cL C := Nat.mul_le_mul hRL.2.2.1 hRL.2.2.2
    omega)
  have HOK := Lib.hid hok.1
  have HLe := Lib.hid hL
  obtain ⟨Fz, hFz⟩ : ∃ Fz : Nat, 1 + (p : Int) % 600 = (Fz : Int) := ⟨1 + p % 600, by omega⟩
  obtain ⟨Fy, hFy⟩ : ∃ Fy : Nat, 1 + (p : Int) % 50 = (Fy : Int) := ⟨1 + p % 50, by omega⟩
  have HFz := Lib.hid (And.intro hFz (And.intro (show Fz ≤ 600 by omega) (show Fy ≤ 50 by omega)))
  have HFy := Lib.hid hFy
  obtain ⟨e1, E1, he1, hMk, hBt⟩ := made_torn (n := n) hok.1 hRL.1 (by omega) (by omega) (mx (Fz : Int))
  unfold cfgV at hMk hBt
  have HMk := Lib.hid hMk
  have HBt := Lib.hid hBt
  have HE1 := Lib.hid he1
  have HFS := Lib.hid (fun W => full09 s W hs2)
  have HFT := Lib.hid (fun W => full09 t W ht2)
  obtain ⟨S, hS⟩ : ∃ A, A = fullS s := ⟨_, rfl⟩
  obtain ⟨T, hT⟩ : ∃ A, A = fullS t := ⟨_, rfl⟩
  have HS := Lib.hid (show S.size = 64 by rw [hS]; exact fullS_size _)
  have HT := Lib.hid (show T.size = 64 by rw [hT]; exact fullS_size _)
  rw [← hS] at HFS
  rw [← hT] at HFT
  have HF0 := Lib.hid (fun W => full09 ⟨#[]⟩ W (by show 0 ≤ _; omega))
  obtain ⟨Y, hY⟩ : ∃ A, A = fullS ⟨#[]⟩ := ⟨_, rfl⟩
  have HY := Lib.hid (show Y.size = 64 ∧ ∀ k, k < 8 → wdL Y.data.toList k = 0 by rw [hY]; exact ⟨fullS_size _, fun k hk => nought_word hk⟩)
  rw [← hY] at HF0
  have HPQ := Lib.hid (And.intro hp (And.intro hq hr))
  clear hY hC hok hpos hn hRL hL hx4 hFz hFy he1 hMk hBt hS hT hs2 ht2 hp hq hr hi hz0 hz1 hz2
  have hA1 := (Holds.new (w.alloc (Obj.cells #[.int .i64 x0, .int .i64 x1, .int .i64 x2, .int .i64 x3, .int .u64 (x4 : Int)] 24)) #[.string s, .string t] 91).alloc (Obj.cells #[.int .u16 (p : Int), .int .u16 (q : Int), .int .u16 (r3 : Int)] 93)
  have hA2 := Holds.new ((w.alloc (Obj.cells #[.int .i64 x0, .int .i64 x1, .int .i64 x2, .int .i64 x3, .int .u64 (x4 : Int)] 24)).alloc (Obj.cells #[.string s, .string t] 91)) #[.int .u16 (p : Int), .int .u16 (q : Int), .int .u16 (r3 : Int)] 93
  have hG := (((Gr.refl [] w).alloc (Obj.cells #[.int .i64 x0, .int .i64 x1, .int .i64 x2, .int .i64 x3, .int .u64 (x4 : Int)] 24)).alloc (Obj.cells #[.string s, .string t] 91)).alloc (Obj.cells #[.int .u16 (p : Int), .int .u16 (q : Int), .int .u16 (r3 : Int)] 93)
  rw [World.size_alloc] at hA1 hA2
  try rw [World.size_alloc] at hA2
  have HA := Lib.hid (And.intro hA1 (And.intro hA2 hG))
  clear hA1 hA2 hG
  go_enter Tryz.func6, Tryz.ntmps6
  go_wp2_with fail
  generalize (((w.alloc (Obj.cells #[.int .i64 x0, .int .i64 x1, .int .i64 x2, .int .i64 x3, .int .u64 (x4 : Int)] 24)).alloc (Obj.cells #[.string s, .string t] 91)).alloc (Obj.cells #[.int .u16 (p : Int), .int .u16 (q : Int), .int .u16 (r3 : Int)] 93)) = w1 at *
  obtain ⟨bA, hbA⟩ : ∃ bA, w.heap.size = bA := ⟨_, rfl⟩
  have HWB := Lib.hid hbA
  rw [hbA] at HA ⊢
  clear hbA
  refine (HSx.out _).mono ?_
  rintro e w2 ⟨rfl, g2⟩
  have hh := Holds.new w2 #[.int .i64 C.r, .int .i64 C.l, .int .i64 C.s, .int .i64 C.psi, .int .u64 (C.key : Int)] 37
  have ga := (Gr.refl [] w2).alloc (Obj.cells #[.int .i64 C.r, .int .i64 C.l, .int .i64 C.s, .int .i64 C.psi, .int .u64 (C.key : Int)] 37)
  have H2 := Lib.hid (show Tq w bA w2.heap.size C s t p q r3 (w2.alloc (Obj.cells #[.int .i64 C.r, .int .i64 C.l, .int .i64 C.s, .int .i64 C.psi, .int .u64 (C.key : Int)] 37)) from ⟨HA.out.2.2.trans (g2.trans ga), (HA.out.1.gr0 g2).gr0 ga, (HA.out.2.1.gr0 g2).gr0 ga, hh, Nat.lt_of_lt_of_le HA.out.2.1.lt g2.size, by rw [HWB.out]; exact Nat.le_refl _⟩)
  clear g2 hh ga HA HSx
  go_upto_region 2 with fail
  generalize (w2.alloc (Obj.cells #[.int .i64 C.r, .int .i64 C.l, .int .i64 C.s, .int .i64 C.psi, .int .u64 (C.key : Int)] 37)) = w3 at *
  obtain ⟨pb, hpb⟩ : ∃ pb, w2.heap.size = pb := ⟨_, rfl⟩
  rw [hpb] at H2 ⊢
  clear hpb
  have c0 := H2.out.pl.cell 0
  have c1 := H2.out.pl.cell 1
  have c2 := H2.out.pl.cell 2
  have c3 := H2.out.pl.cell 3
  have c4 := H2.out.pl.cell 4
  go_wp2_with fail
  with_reducible refine (HSz.out _).mono ?_
  rintro e w4 ⟨rfl, g4⟩
  have H4 := Lib.hid (H2.out.next0 g4)
  clear g4 c0 c1 c2 c3 c4 H2 HSz
  go_wp2_with fail
  refine (pmnew_yes n _ HN.out.1 (by have := HN.out.2.1; omega)).mono ?_
  rintro e w5 ⟨a, rfl, d5, hlo, g5⟩
  have HLO := Lib.hid (show ∀ x ∈ a.all, pb < x from fun x hx => by have := hlo x hx; have := H4.out.pl.lt; omega)
  have H5 := Lib.hid (And.intro (H4.out.next0 g5) d5)
  clear d5 g5 hlo H4
  obtain ⟨kf, hkf⟩ : ∃ kf : Nat → Bool, ∀ k, kf k = (bits .and .u16 ((q : Int) / 2 ^ k) 1 == 1) := ⟨fun k => (bits .and .u16 ((q : Int) / 2 ^ k) 1 == 1), fun _ => rfl⟩
  have HKF := Lib.hid hkf
  clear hkf
  go_upto_region 5 with fail
  go_loopw [10, 31] (fun v z wr => ∃ k : Nat, k ≤ 16 ∧ z = .int .i64 (k : Int) ∧ wr.ownsRow w5.heap.size 4 1 v k ((List.range k).map fun j => .bool (kf j)) ∧ Gr [] w5 wr) (fun _ z _ => 16 - (intOf z).toNat)
  case atStart => exact ⟨0, by omega, rfl, World.ownsRow_nil _ _ _ _, Gr.refl _ _⟩
  case round =>
    obtain ⟨k8, hk, rfl, hown, g⟩ := hrel
    by_cases hlt : k8 < 16
    · have hd : decide ((k8 : Int) < 16) = true := by simp; omega
      have hq1 : wr.cell? ⟨bA + 1 + 1, 1, none⟩ = some (.int .u16 (q : Int)) := (H5.out.1.cu.gr0 g).cell 1
      have hsz := g.size
      have HG := Lib.hid (And.intro hown g)
      clear g
      obtain ⟨hi, hz0, hz1, hz2⟩ := HIN.out
      go_wp2_with (at_builtin; refine wpList_append_own _ rfl _ _ 45 rfl w5.heap.size 4 i0 (.bool false) 1 1 Tryz.underlying45 hi hz0 hz1 hz2 rfl (by decide) _ _ _ rfl (hown.alloc _) ⟨wr.heap.size, 0, none⟩ 1 1 [.bool (bits .and .u16 ((q : Int) / 2 ^ k8) 1 == 1)] rfl rfl ?c1 ?c2 ?c3 ?c4 ?c5 ?_)
      case c1 =>
        intro a u ha
        match a, ha with
        | 0, ha => simp at ha; subst ha; simp [Addr.add]
      case c2 => intro u hu; simp at hu; subst hu; rfl
      case c3 => unfold maxLen; omega
      case c4 => omega
      case c5 => simp; omega
      intro v' w17 hown3 hgrow _
      have HN2 := Lib.hid (show w17.ownsRow w5.heap.size 4 1 v' (k8 + 1) ((List.range (k8 + 1)).map fun j => .bool (kf j)) ∧ Gr [] w5 w17 from by
        refine ⟨?_, ?_⟩
        · rw [List.range_succ, List.map_append]
          show w17.ownsRow w5.heap.size 4 1 v' (k8 + 1) (_ ++ [.bool (kf k8)])
          rw [HKF.out k8]
          exact hown3
        · exact ((HG.out.2.alloc _).grown hgrow (fun x hx => .inr (hown.lt x hx).1)))
      clear hown3 hgrow hown hq1 hi hz0 hz1 hz2
      go_wp2_with fail
      go_roundw
      case rel => exact ⟨k8 + 1, by omega, by go_num, HN2.out.1, HN2.out.2⟩
      case measure => simp [intOf]; omega
    · obtain rfl : k8 = 16 := by omega
      obtain ⟨gk, cap, hv, hlow, hkb⟩ := keep_of16 hown
      subst hv
      have HG6 := Lib.hid (show pb < gk ∧ ∀ x ∈ a.all, pb < x ∧ x ≠ gk from ⟨by have := H5.out.1.pl.lt; omega, fun x hx => ⟨HLO.out x hx, fun q => by have := H5.out.2.lt x hx; omega⟩⟩)
      have H6 := Lib.hid (And.intro (show Tk w bA pb C s t p q r3 gk cap kf wr from ⟨H5.out.1.next0 g, hkb, HG6.out.1⟩) (H5.out.2.gr0 g))
      clear hown g hlow hkb H5 HKF HLO
      rw [show ((16 : Nat) : Int) = 16 from rfl]
      obtain ⟨w6, hw6⟩ : ∃ w6, w6 = wr := ⟨_, rfl⟩
      rw [← hw6] at H6 ⊢
      clear hw6
      have hp1 := H6.out.1.tq.cu.cell 0
      have hFz := HFz.out.1
      have hFw : IntKind.i64.wrap (Fz : Int) = (Fz : Int) := IntWalk.i64_in _ (by have := HFz.out.2.1; omega)
      have HFu := Lib.hid (fuse_any a (newD n) (Fz : Int) (by have := HFz.out.2.1; omega) w6 H6.out.2)
      go_wp2_with fail
      refine HFu.out.mono ?_
      rintro e w7 ⟨rfl, d7, g7⟩
      have g7a : Gr a.all w6 w7 := g7.mono (fun b hb => by simp at hb; subst hb; simp [DevA.all])
      have H7 := Lib.hid (And.intro (H6.out.1.next g7a HG6.out.2) d7)
      clear d7 g7 g7a hp1 hFz hFw HFu H6
      have c0 := H7.out.1.tq.pl.cell 0
      have c1 := H7.out.1.tq.pl.cell 1
      have c2 := H7.out.1.tq.pl.cell 2
      have c3 := H7.out.1.tq.pl.cell 3
      have c4 := H7.out.1.tq.pl.cell 4
      go_wp2_with fail
      with_reducible refine (HMk.out _ a H7.out.2).mono ?_
      rintro e w8 ⟨rfl, ⟨d8, b8⟩, g8⟩
      have H8 := Lib.hid (And.intro (H7.out.1.next g8 HG6.out.2) (And.intro d8 b8))
      clear d8 b8 g8 c0 c1 c2 c3 c4 H7 HMk
      have HBo := Lib.hid (boot_any a E1 _ 16 _ w8 H8.out.2.1 H8.out.1.kb.keep (fun l => by have := H8.out.2.2.2 l; omega) (by have := H8.out.2.2.1; omega))
      go_wp2_with fail
      refine HBo.out.mono ?_
      rintro e w9 ⟨rfl, ⟨LL, hLL, d9⟩, g9⟩
      obtain ⟨hOp, hMg⟩ := HBt.out LL (fun j => if j < 16 then kf j else false) hLL H8.out.2.2
      have HMg := Lib.hid hMg
      have HOp := Lib.hid hOp
      have H9 := Lib.hid (And.intro (H8.out.1.next g9 HG6.out.2) d9)
      clear hOp hMg hLL d9 g9 HBo H8 HBt
      generalize bootD E1 LL (fun j => if j < 16 then kf j else false) = D9 at *
      have HOq := Lib.hid ((HOp.out w9 a H9.out.2).mono (R' := fun e w' => ∃ (fv : Value) (gv : Int), e = .returned (.tuple #[fv, .int .i64 gv]) ∧ Gr [] w9 w' ∧ ((gv = 0 ∧ ∃ (C' : CfgZ) (A : FlA) (V : FlV), (C'.r = C.r ∧ C'.l = C.l) ∧ fv = .pointer (some ⟨A.fb, 0, none⟩) ∧ FL C' A a true (fun _ _ => 0) V 200000 w' ∧ (∀ x ∈ A.all (cR C'), w9.heap.size ≤ x)) ∨ (gv = 4 ∧ e1 = 6 ∧ fv = .pointer none))) fun e w' h => by
        rcases h with ⟨⟨C', A, V, h1, rfl, h2, h3⟩ | ⟨h1, rfl⟩, g⟩
        · exact ⟨_, _, rfl, g, .inl ⟨rfl, C', A, V, h1, rfl, h2, h3⟩⟩
        · exact ⟨_, _, rfl, g, .inr ⟨rfl, h1, rfl⟩⟩)
      clear HOp
      go_wp2_with fail
      refine HOq.out.mono ?_
      rintro e w10 ⟨fv, gv, rfl, g10, hcs⟩
      have HCs := Lib.hid hcs
      have H10 := Lib.hid (And.intro (H9.out.1.next0 g10) (H9.out.2.gr0 g10))
      have HSz9 := Lib.hid (And.intro H9.out.1.kb.lt (And.intro H9.out.1.tq.pl.lt g10.size))
      clear hcs g10 H9 HOq
      go_upto_region 13 with fail
      go_cut [79] (fun c wz => c = .bool false ∧ Gr [] w10 wz)
      case first =>
        rcases HE1.out with rfl | rfl
        · rcases HCs.out with ⟨rfl, hz⟩ | ⟨_, h, _⟩
          · clear hz
            go_wp2_with fail
            refine (wakes09 _).mono ?_
            rintro e w11 ⟨rfl, g11⟩
            have HG := Lib.hid g11
            clear g11
            go_wp2_with fail
            go_meet
            exact ⟨rfl, HG.out⟩
          · omega
        · rcases HCs.out with ⟨rfl, hz⟩ | ⟨rfl, hz⟩
          all_goals clear hz
          · go_wp2_with fail
            refine (wakes09 _).mono ?_
            rintro e w11 ⟨rfl, g11⟩
            have HG := Lib.hid g11
            clear g11
            go_wp2_with fail
            go_meet
            exact ⟨rfl, HG.out⟩
          · go_wp2_with fail
            refine (wakes09 _).mono ?_
            rintro e w11 ⟨rfl, g11⟩
            have HG := Lib.hid g11
            clear g11
            go_wp2_with fail
            go_meet
            exact ⟨rfl, HG.out⟩
      case rest =>
        obtain ⟨rfl, hgc⟩ := hcut
        have H11 := Lib.hid (And.intro (H10.out.1.next0 hgc) (And.intro (H10.out.2.gr0 hgc) hgc))
        clear hgc H10
        go_upto_if 81 with fail
        go_cut [13, 14] (fun fw gw wz => ∃ (C' : CfgZ) (A : FlA) (V : FlV), (C'.r = C.r ∧ C'.l = C.l) ∧ fw = .pointer (some ⟨A.fb, 0, none⟩) ∧ Tk w bA pb C s t p q r3 gk cap kf wz ∧ FL C' A a true (fun _ _ => 0) V 200000 wz ∧ ∀ x ∈ A.all (cR C') ++ a.all, pb < x ∧ x ≠ gk)
        case first =>
          rcases HCs.out with ⟨rfl, C', A, V, h1, rfl, h2, h3⟩ | ⟨rfl, hz, rfl⟩
          · go_wp2_with fail
            go_meet
            exact ⟨C', A, V, h1, rfl, H11.out.1, h2.gr0 H11.out.2.2, fun x hx => by
              rcases List.mem_append.1 hx with hx | hx
              · have := h3 x hx
                have := HSz9.out
                exact ⟨by omega, by omega⟩
              · exact HG6.out.2 x hx⟩
          · clear hz
            have c0 := H11.out.1.tq.pl.cell 0
            have c1 := H11.out.1.tq.pl.cell 1
            have c2 := H11.out.1.tq.pl.cell 2
            have c3 := H11.out.1.tq.pl.cell 3
            have c4 := H11.out.1.tq.pl.cell 4
            go_wp2_with fail
            refine (HMg.out _ a H11.out.2.1).mono ?_
            rintro e w12 ⟨E3, V3, rfl, d12, f12, g12⟩
            have H12 := Lib.hid (And.intro (H11.out.1.next g12 HG6.out.2) (And.intro d12 f12))
            clear d12 f12 g12 c0 c1 c2 c3 c4 H11 HMg
            go_wp2_with fail
            refine (fl_open HOK.out H12.out.2.2 (by omega) H12.out.2.1).mono ?_
            rintro e w13 ⟨A, rfl, f13, n13, g13⟩
            have H13 := Lib.hid (show Tk w bA pb C s t p q r3 gk cap kf w13 ∧ FL C A a true (fun _ _ => 0) V3 200000 w13 ∧ ∀ x ∈ A.all (cR C) ++ a.all, pb < x ∧ x ≠ gk from ⟨H12.out.1.next0 g13, f13, fun x hx => by
              rcases List.mem_append.1 hx with hx | hx
              · have := n13 x hx
                have := H12.out.1.kb.lt
                have := H12.out.1.tq.pl.lt
                exact ⟨by omega, by omega⟩
              · exact HG6.out.2 x hx⟩)
            clear f13 n13 g13 H12
            go_wp2_with fail
            go_meet
            exact ⟨C, A, V3, ⟨rfl, rfl⟩, rfl, H13.out⟩
        case rest =>
          obtain ⟨C2, A, V, hCC, rfl, hT, hf, hk⟩ := hcut
          have hLC : L = cR C2 * cL C2 := by
            rw [HLe.out]
            unfold cR cL
            rw [hCC.1, hCC.2]
          have HLC := Lib.hid hLC
          have HKA := Lib.hid hk
          have HOKC := Lib.hid hf.ok
          have H14 := Lib.hid (And.intro hT hf)
          clear hCC hLC hT hf hk H11 HMg HCs HSz9 HE1 HOK HLe HG6 HN
          go_wp2_with fail
          refine (H14.out.2.lines).mono ?_
          rintro e w15 ⟨rfl, g15⟩
          rw [← HLC.out]
          have H15 := Lib.hid (And.intro (H14.out.1.next0 g15) (H14.out.2.gr0 g15))
          clear g15 H14
          go_wp2_with fail
          go_loopw [107] (fun z wr => ∃ (m : Nat) (V : FlV), m ≤ L ∧ z = .int .i64 (m : Int) ∧ Tk w bA pb C s t p q r3 gk cap kf wr ∧ FL C2 A a true (oneF S m) V (200000 + 4200 * m) wr) (fun z _ => L - (intOf z).toNat)
          case atStart => exact ⟨0, V, by omega, rfl, H15.out.1, H15.out.2.congr fun l k _ _ => by unfold oneF; rw [if_neg (by omega)]⟩
          case round =>
            clear H15
            obtain ⟨m, V, hm, rfl, ht, hf⟩ := hrel
            have HM := Lib.hid (And.intro ht hf)
            clear ht hf
            by_cases hmL : m < L
            · skip
              have im : (m : Int) < (L : Int) := by omega
              have HML2 := Lib.hid (show m < cR C2 * cL C2 by rw [← HLC.out]; exact hmL)
              have HMl := Lib.hid hmL
              have hw : IntKind.i64.wrap ((m : Int) + 1) = (m : Int) + 1 := IntWalk.i64_in _ (by have := HL.out; omega)
              clear hmL hm
              go_wp2_with fail
              refine (HM.out.2.read m HML2.out).mono ?_
              rintro e w16 ⟨rfl, g16⟩
              rw [lnF_is HM.out.2 HML2.out HY.out.1 (fun k hk => by rw [HY.out.2 k hk]; unfold oneF; rw [if_neg (by omega)])]
              have H16 := Lib.hid (And.intro (HM.out.1.next0 g16) (HM.out.2.gr0 g16))
              clear g16 HM
              go_wp2_with fail
              refine (HF0.out _).mono ?_
              rintro e w17 ⟨rfl, g17⟩
              have H17 := Lib.hid (And.intro (H16.out.1.next0 g17) (H16.out.2.gr0 g17))
              clear g17 H16
              have e0 := H17.out.1.tq.ar.cell 0
              go_wp2_with fail
              refine (HFS.out _).mono ?_
              rintro e w18 ⟨rfl, g18⟩
              have H18 := Lib.hid (And.intro (H17.out.1.next0 g18) (H17.out.2.gr0 g18))
              clear g18 e0 H17
              go_wp2_with fail
              refine (H18.out.2.put (by have := HL.out; have := HMl.out; omega) m HML2.out S HS.out).mono ?_
              rintro e w19 ⟨x, V', rfl, hx, g19⟩
              rcases hx with ⟨rfl, f19⟩ | ⟨_, hf, _⟩
              case inr => exact absurd hf (by decide)
              have H19 := Lib.hid (And.intro (H18.out.1.next g19 HKA.out) (f19.congr (F' := oneF S (m + 1)) fun l k _ _ => by
                unfold oneF
                by_cases q : l = m
                · rw [if_pos q, if_pos (by omega)]
                · rw [if_neg q]
                  by_cases q2 : l < m
                  · rw [if_pos q2, if_pos (by omega)]
                  · rw [if_neg q2, if_neg (by omega)]))
              clear f19 g19 H18
              go_wp2_with fail
              go_roundw
              case rel => exact ⟨m + 1, V', HMl.out, by go_num, H19.out.1, H19.out.2.more (by omega)⟩
              case measure => have := HMl.out; simp [intOf]; omega
            · obtain rfl : m = L := by omega
              have im : ¬ ((m : Int) < (m : Int)) := by omega
              go_upto_region 30 with fail
              clear im
              have hr1 := kp_cell (HM.out.1.tq.cu.cell 2)
              have hne := kp_ne wr
              have HLn := Lib.hid (fun (x : Cls (Kp wr)) => ((HM.out.2.gr0 (Gr.ofBelow x.h)).lines).mono fun _ _ q => And.intro q.1 q.2.below0)
              rw [← HLC.out] at HLn
              have n1 : ((m : Int) == 0) = false := by have := HL.out; simp; omega
              have n2 : (m : Int) ≠ 0 := by have := HL.out; omega
              have w1 : (r3 : Int).tmod (m : Int) = (r3 : Int) % (m : Int) := Int.tmod_eq_emod_of_nonneg (by omega)
              have m1 := Int.emod_nonneg (r3 : Int) n2
              have m2 := Int.emod_lt_of_pos (r3 : Int) (show (0 : Int) < (m : Int) by have := HL.out; omega)
              have w2 : IntKind.i64.wrap ((r3 : Int) % (m : Int)) = (r3 : Int) % (m : Int) := IntWalk.i64_in _ (by have := HL.out; omega)
              have w3 : IntKind.i64.wrap (r3 : Int) = (r3 : Int) := IntWalk.i64_in _ (by have := HPQ.out; omega)
              refine wp_region_kp (by kernel_rfl) (by kernel_rfl) ?_
              repeat (go_big_quiet_step ((rename_i x; with_reducible exact kp_call x (HLn.out x))))
              with_reducible refine wpQuiet_nil ?_
              rintro _ ⟨y, rfl⟩
              have gy : Gr [] wr y.w := Gr.ofBelow (cs := []) y.h
              have H20 := Lib.hid (And.intro (HM.out.1.next0 gy) (HM.out.2.gr0 gy))
              clear gy hr1 hne HLn HM n1 w1 w2 w3
              generalize y.w = w20 at *
              clear y
              obtain ⟨l, hl⟩ : ∃ l : Nat, (l : Int) = (r3 : Int) % (m : Int) := ⟨((r3 : Int) % (m : Int)).toNat, by omega⟩
              have HLl := Lib.hid (show l < m by omega)
              have HLl2 := Lib.hid (show l < cR C2 * cL C2 by rw [← HLC.out]; exact HLl.out)
              rw [← hl]
              clear n2 m1 m2 hl
              have hp1 := H20.out.1.tq.cu.cell 0
              have hFy := HFy.out
              have hFw : IntKind.i64.wrap (Fy : Int) = (Fy : Int) := IntWalk.i64_in _ (by have := HFz.out.2.2; omega)
              have HFu := Lib.hid (H20.out.2.fuse (Fy : Int) (by have := HFz.out.2.2; omega))
              go_wp2_with fail
              refine HFu.out.mono ?_
              rintro e w21 ⟨rfl, f21, g21⟩
              have H21 := Lib.hid (And.intro (H20.out.1.next g21 fun x hx => HKA.out x (List.mem_append.2 (.inr hx))) f21)
              clear f21 g21 hp1 hFy hFw HFu H20
              have e1 := H21.out.1.tq.ar.cell 1
              go_wp2_with fail
              refine (HFT.out _).mono ?_
              rintro e w22 ⟨rfl, g22⟩
              have H22 := Lib.hid (And.intro (H21.out.1.next0 g22) (H21.out.2.gr0 g22))
              clear g22 e1 H21
              go_wp2_with fail
              refine (H22.out.2.put (by have := HL.out; omega) l HLl2.out T HT.out).mono ?_
              rintro e w23 ⟨hx, E2, rfl, hx06, ⟨d23, b23⟩, hT23, g23⟩
              have HX := Lib.hid (And.intro hx06 hT23)
              have H23 := Lib.hid (And.intro (H22.out.1.next g23 HKA.out) (And.intro d23 b23))
              clear hx06 hT23 d23 b23 g23 H22
              have HBo := Lib.hid (boot_any a E2 _ 16 _ w23 H23.out.2.1 H23.out.1.kb.keep (fun l => by have := H23.out.2.2.2 l; have := HL.out; omega) (by have := H23.out.2.2.1; have := HL.out; omega))
              go_wp2_with fail
              refine HBo.out.mono ?_
              rintro e w24 ⟨rfl, ⟨L2, hL2, d24⟩, g24⟩
              obtain ⟨H, V3, B3, j3, hfd, hgot⟩ := HX.out.2 L2 (fun j => if j < 16 then kf j else false) hL2
              have H24 := Lib.hid (And.intro (H23.out.1.next g24 fun x hx => HKA.out x (List.mem_append.2 (.inr hx))) (And.intro d24 hfd))
              have HGot := Lib.hid hgot
              have HX0 := Lib.hid HX.out.1
              clear hfd hgot hL2 d24 g24 HBo H23 HX
              generalize bootD E2 L2 (fun j => if j < 16 then kf j else false) = D24 at *
              go_wp2_with fail
              refine (fl_open HOKC.out H24.out.2.2 (by have := HL.out; omega) H24.out.2.1).mono ?_
              rintro e w25 ⟨A3, rfl, f25, n25, g25⟩
              have H25 := Lib.hid (And.intro (H24.out.1.next0 g25) f25)
              have hmg := mixB_got f25 HLl2.out HS.out HT.out (fun i k hi hk => by unfold oneF; rw [if_pos (by rw [HLC.out]; exact hi)]) HGot.out
              clear f25 n25 g25 H24 HGot
              obtain ⟨got, hgt⟩ : ∃ got, got = lnF (fun l2 k => if l2 = l then H k else oneF S m l2 k) l := ⟨_, rfl⟩
              rw [← hgt] at hmg
              have HMg := Lib.hid hmg
              have HGt := Lib.hid hgt
              clear hmg hgt
              generalize (fun l2 k => if l2 = l then H k else oneF S m l2 k) = F3 at *
              rcases HX0.out with rfl | rfl
              · as_aux_lemma =>
                  obtain rfl : got = T := HMg.out.2.2.1 rfl
                  go_wp2_with fail
                  refine (H25.out.2.lines).mono ?_
                  rintro e w26 ⟨rfl, g26⟩
                  rw [← HLC.out]
                  have H26 := Lib.hid (And.intro (H25.out.1.next0 g26) (H25.out.2.gr0 g26))
                  clear g26 H25
                  go_wp2_with fail
                  go_loopw [174] (fun z wr => ∃ i : Nat, i ≤ m ∧ z = .int .i64 (i : Int) ∧ Tk w bA pb C s t p q r3 gk cap kf wr ∧ FL C2 A3 a true F3 V3 (200000 + 4200 * m + 4201) wr) (fun z _ => m - (intOf z).toNat)
                  case atStart => exact ⟨0, by omega, rfl, H26.out⟩
                  case round =>
                    clear H26
                    obtain ⟨i, hi, rfl, ht, hf⟩ := hrel
                    have HM := Lib.hid (And.intro ht hf)
                    clear ht hf
                    by_cases hiL : i < m
                    · skip
                      have im : (i : Int) < (m : Int) := by omega
                      have HIl := Lib.hid (show i < cR C2 * cL C2 by rw [← HLC.out]; exact hiL)
                      have HIm := Lib.hid hiL
                      have hw : IntKind.i64.wrap ((i : Int) + 1) = (i : Int) + 1 := IntWalk.i64_in _ (by have := HL.out; omega)
                      clear hiL hi
                      go_wp2_with fail
                      refine (HM.out.2.read i HIl.out).mono ?_
                      rintro e w27 ⟨rfl, g27⟩
                      have H27 := Lib.hid (And.intro (HM.out.1.next0 g27) (HM.out.2.gr0 g27))
                      clear g27 HM
                      by_cases hil : i = l
                      · subst hil
                        rw [← HGt.out]
                        have hii : ((i : Int) == (i : Int)) = true := by simp
                        have e0 := H27.out.1.tq.ar.cell 0
                        go_upto_region 41 with fail
                        have hr0 := kp_cell e0
                        have hr1 := kp_cell (H27.out.1.tq.ar.cell 1)
                        have hne := kp_ne w27
                        have HMi := Lib.hid (fun W => mixed_any S got got W (by rw [HS.out]; exact HML.out) (by rw [HT.out]; exact HML.out) (by rw [HMg.out.2.1]; exact HML.out))
                        rw [HMg.out.2.2.2] at HMi
                        refine wp_region_kp (by kernel_rfl) (by kernel_rfl) ?_
                        repeat (go_big_quiet_step ((rename_i x; first
                          | with_reducible exact kp_call x ((HFS.out _).mono fun _ _ q => ⟨q.1, q.2.below0⟩)
                          | with_reducible exact kp_call x ((HFT.out _).mono fun _ _ q => ⟨q.1, q.2.below0⟩)
                          | with_reducible exact kp_call x ((HMi.out _).mono fun _ _ q => ⟨q.1, q.2.below0⟩))))
                        with_reducible refine wpQuiet_nil ?_
                        rintro _ ⟨y, rfl⟩
                        have gy : Gr [] w27 y.w := Gr.ofBelow (cs := []) y.h
                        have H28 := Lib.hid (And.intro (H27.out.1.next0 gy) (H27.out.2.gr0 gy))
                        clear gy hr0 hr1 hne HMi H27 e0 hii
                        generalize y.w = w28 at *
                        clear y
                        go_wp2_with fail
                        go_roundw
                        case rel => exact ⟨i + 1, HIm.out, by go_num, H28.out⟩
                        case measure => have := HIm.out; simp [intOf]; omega
                      · skip
                        have hii : ((i : Int) == (l : Int)) = false := by simp; omega
                        rw [HMg.out.1 i HIl.out hil]
                        go_upto_region 41 with fail
                        have hr0 := kp_cell (H27.out.1.tq.ar.cell 0)
                        have hne := kp_ne w27
                        have hil2 : ¬ (i : Int) = (l : Int) := by omega
                        have hii2 : ((i : Int) != (l : Int)) = true := by simp; omega
                        have hii3 : (i == l) = false := by simp; omega
                        have hii4 : (i != l) = true := by simp; omega
                        have hii5 : decide ((i : Int) = (l : Int)) = false := by simp; omega
                        have hii6 : decide (i = l) = false := by simp; omega
                        refine wp_region_kp (by kernel_rfl) (by kernel_rfl) ?_
                        repeat (go_big_quiet_step ((rename_i x; first
                          | with_reducible exact kp_call x ((HFS.out _).mono fun _ _ q => ⟨q.1, q.2.below0⟩))))
                        with_reducible refine wpQuiet_nil ?_
                        rintro _ ⟨y, rfl⟩
                        have gy : Gr [] w27 y.w := Gr.ofBelow (cs := []) y.h
                        have H28 := Lib.hid (And.intro (H27.out.1.next0 gy) (H27.out.2.gr0 gy))
                        clear gy hr0 hne H27 hii hil2 hii2 hii3 hii4 hii5 hii6
                        generalize y.w = w28 at *
                        clear y
                        go_wp2_with fail
                        go_roundw
                        case rel => exact ⟨i + 1, HIm.out, by go_num, H28.out⟩
                        case measure => have := HIm.out; simp [intOf]; omega
                    · obtain rfl : i = m := by omega
                      have im : ¬ ((i : Int) < (i : Int)) := by omega
                      go_wp2_with fail
                      go_ret
                      exact ⟨rfl, HM.out.1.tq.gr⟩
              · as_aux_lemma =>
                  go_wp2_with fail
                  refine (H25.out.2.lines).mono ?_
                  rintro e w26 ⟨rfl, g26⟩
                  rw [← HLC.out]
                  have H26 := Lib.hid (And.intro (H25.out.1.next0 g26) (H25.out.2.gr0 g26))
                  clear g26 H25
                  go_wp2_with fail
                  go_loopw [174] (fun z wr => ∃ i : Nat, i ≤ m ∧ z = .int .i64 (i : Int) ∧ Tk w bA pb C s t p q r3 gk cap kf wr ∧ FL C2 A3 a true F3 V3 (200000 + 4200 * m + 4201) wr) (fun z _ => m - (intOf z).toNat)
                  case atStart => exact ⟨0, by omega, rfl, H26.out⟩
                  case round =>
                    clear H26
                    obtain ⟨i, hi, rfl, ht, hf⟩ := hrel
                    have HM := Lib.hid (And.intro ht hf)
                    clear ht hf
                    by_cases hiL : i < m
                    · skip
                      have im : (i : Int) < (m : Int) := by omega
                      have HIl := Lib.hid (show i < cR C2 * cL C2 by rw [← HLC.out]; exact hiL)
                      have HIm := Lib.hid hiL
                      have hw : IntKind.i64.wrap ((i : Int) + 1) = (i : Int) + 1 := IntWalk.i64_in _ (by have := HL.out; omega)
                      clear hiL hi
                      go_wp2_with fail
                      refine (HM.out.2.read i HIl.out).mono ?_
                      rintro e w27 ⟨rfl, g27⟩
                      have H27 := Lib.hid (And.intro (HM.out.1.next0 g27) (HM.out.2.gr0 g27))
                      clear g27 HM
                      by_cases hil : i = l
                      · subst hil
                        rw [← HGt.out]
                        have hii : ((i : Int) == (i : Int)) = true := by simp
                        have e0 := H27.out.1.tq.ar.cell 0
                        go_upto_region 41 with fail
                        have hr0 := kp_cell e0
                        have hr1 := kp_cell (H27.out.1.tq.ar.cell 1)
                        have hne := kp_ne w27
                        have HMi := Lib.hid (fun W => mixed_any S T got W (by rw [HS.out]; exact HML.out) (by rw [HT.out]; exact HML.out) (by rw [HMg.out.2.1]; exact HML.out))
                        rw [HMg.out.2.2.2] at HMi
                        refine wp_region_kp (by kernel_rfl) (by kernel_rfl) ?_
                        repeat (go_big_quiet_step ((rename_i x; first
                          | with_reducible exact kp_call x ((HFS.out _).mono fun _ _ q => ⟨q.1, q.2.below0⟩)
                          | with_reducible exact kp_call x ((HFT.out _).mono fun _ _ q => ⟨q.1, q.2.below0⟩)
                          | with_reducible exact kp_call x ((HMi.out _).mono fun _ _ q => ⟨q.1, q.2.below0⟩))))
                        with_reducible refine wpQuiet_nil ?_
                        rintro _ ⟨y, rfl⟩
                        have gy : Gr [] w27 y.w := Gr.ofBelow (cs := []) y.h
                        have H28 := Lib.hid (And.intro (H27.out.1.next0 gy) (H27.out.2.gr0 gy))
                        clear gy hr0 hr1 hne HMi H27 e0 hii
                        generalize y.w = w28 at *
                        clear y
                        go_wp2_with fail
                        go_roundw
                        case rel => exact ⟨i + 1, HIm.out, by go_num, H28.out⟩
                        case measure => have := HIm.out; simp [intOf]; omega
                      · skip
                        have hii : ((i : Int) == (l : Int)) = false := by simp; omega
                        rw [HMg.out.1 i HIl.out hil]
                        go_upto_region 41 with fail
                        have hr0 := kp_cell (H27.out.1.tq.ar.cell 0)
                        have hne := kp_ne w27
                        have hil2 : ¬ (i : Int) = (l : Int) := by omega
                        have hii2 : ((i : Int) != (l : Int)) = true := by simp; omega
                        have hii3 : (i == l) = false := by simp; omega
                        have hii4 : (i != l) = true := by simp; omega
                        have hii5 : decide ((i : Int) = (l : Int)) = false := by simp; omega
                        have hii6 : decide (i = l) = false := by simp; omega
                        refine wp_region_kp (by kernel_rfl) (by kernel_rfl) ?_
                        repeat (go_big_quiet_step ((rename_i x; first
                          | with_reducible exact kp_call x ((HFS.out _).mono fun _ _ q => ⟨q.1, q.2.below0⟩))))
                        with_reducible refine wpQuiet_nil ?_
                        rintro _ ⟨y, rfl⟩
                        have gy : Gr [] w27 y.w := Gr.ofBelow (cs := []) y.h
                        have H28 := Lib.hid (And.intro (H27.out.1.next0 gy) (H27.out.2.gr0 gy))
                        clear gy hr0 hne H27 hii hil2 hii2 hii3 hii4 hii5 hii6
                        generalize y.w = w28 at *
                        clear y
                        go_wp2_with fail
                        go_roundw
                        case rel => exact ⟨i + 1, HIm.out, by go_num, H28.out⟩
                        case measure => have := HIm.out; simp [intOf]; omega
                    · obtain rfl : i = m := by omega
                      have im : ¬ ((i : Int) < (i : Int)) := by omega
                      go_wp2_with fail
                      go_ret
                      exact ⟨rfl, HM.out.1.tq.gr⟩

theorem walk_FlatTorn (x0 x1 x2 x3 : Int) (x4 : Nat) (a1 : List ByteArray) (a2 : List Int) {w : World} (hx : CfgB x0 x1 x2 x3 x4) (l1 : a1.length = 2) (w1 : ∀ x ∈ a1, x.size ≤ maxLen ∧ x.size ≤ reachBytes) (l2 : a2.length = 3) (w2 : ∀ x ∈ a2, (Lit.int .u16 x).wf = true) :
    Calls Tryz.prog 6 #[.agg #[.int .i64 x0, .int .i64 x1, .int .i64 x2, .int .i64 x3, .int .u64 (x4 : Int)], .agg (a1.map Value.string).toArray, .agg (a2.map (Value.int .u16)).toArray] w fun e w' => e = .returned (.bool true) ∧ Below w.heap.size w w' := by
  obtain ⟨s, t, rfl⟩ : ∃ s t, a1 = [s, t] := by
    match a1, l1 with
    | [s, t], _ => exact ⟨s, t, rfl⟩
  obtain ⟨x, y, z, rfl⟩ : ∃ x y z, a2 = [x, y, z] := by
    match a2, l2 with
    | [x, y, z], _ => exact ⟨x, y, z, rfl⟩
  obtain ⟨p, rfl, hp⟩ := natU16 (w2 x (by simp))
  obtain ⟨q, rfl, hq⟩ := natU16 (w2 y (by simp))
  obtain ⟨r, rfl, hr⟩ := natU16 (w2 z (by simp))
  have hs := (w1 s (by simp)).2
  have ht := (w1 t (by simp)).2
  unfold reachBytes at hs ht
  exact (ftorn_law x0 x1 x2 x3 x4 s t p q r hx.2.2.2.2 hp hq hr (by omega) (by omega)).mono fun _ _ q => ⟨q.1, q.2.below0⟩
end Go.Proofs.YtjbhallhmnahbaaGreat
