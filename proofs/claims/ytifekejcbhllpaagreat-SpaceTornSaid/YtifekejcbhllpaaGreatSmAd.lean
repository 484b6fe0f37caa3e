/-
  SpaceTorn's walk.
-/
import Derived.Test.YtifekejcbhllpaaGreatSkAa
import Derived.Test.YtifekejcbhllpaaGreatSkAb
import Derived.Test.YtifekejcbhllpaaGreatSkAc
import Derived.Test.YtifekejcbhllpaaGreatSkAd
import Derived.Test.YtifekejcbhllpaaGreatSkAe
import Derived.Test.YtifekejcbhllpaaGreatSkAf
import Derived.Test.YtifekejcbhllpaaGreatSkAg
import Derived.Test.YtifekejcbhllpaaGreatSkAh
import Derived.Test.YtifekejcbhllpaaGreatSkAi
import Derived.Test.YtifekejcbhllpaaGreatSkAj
import Derived.Test.YtifekejcbhllpaaGreatSkAk
import Derived.Test.YtifekejcbhllpaaGreatSkAl
import Derived.Test.YtifekejcbhllpaaGreatSkAm
import Derived.Test.YtifekejcbhllpaaGreatSkAn
import Derived.Test.YtifekejcbhllpaaGreatSkAo
import Derived.Test.YtifekejcbhllpaaGreatSkAp
import Derived.Test.YtifekejcbhllpaaGreatSkAq
import Derived.Test.YtifekejcbhllpaaGreatSkAr
import Derived.Test.YtifekejcbhllpaaGreatSkAs
import Derived.Test.YtifekejcbhllpaaGreatSkAt
import Derived.Test.YtifekejcbhllpaaGreatSkAu
import Derived.Test.YtifekejcbhllpaaGreatSkAv
import Derived.Test.YtifekejcbhllpaaGreatSkAw
import Derived.Test.YtifekejcbhllpaaGreatSkAx
import Derived.Test.YtifekejcbhllpaaGreatSkAy
import Derived.Test.YtifekejcbhllpaaGreatSkAz
import Derived.Test.YtifekejcbhllpaaGreatSkBa
import Derived.Test.YtifekejcbhllpaaGreatSkBb
import Derived.Test.YtifekejcbhllpaaGreatSkBc
import Derived.Test.YtifekejcbhllpaaGreatSkBd
import Derived.Test.YtifekejcbhllpaaGreatSkBe
import Derived.Test.YtifekejcbhllpaaGreatSkBf
import Derived.Test.YtifekejcbhllpaaGreatSkBg
import Derived.Test.YtifekejcbhllpaaGreatSkBh
import Derived.Test.YtifekejcbhllpaaGreatSkBi
import Derived.Test.YtifekejcbhllpaaGreatSkBj
import Derived.Test.YtifekejcbhllpaaGreatSkBk
import Derived.Test.YtifekejcbhllpaaGreatSkBl
import Derived.Test.YtifekejcbhllpaaGreatSkBm
import Derived.Test.YtifekejcbhllpaaGreatSkBn
import Derived.Test.YtifekejcbhllpaaGreatSmAc
import Derived.Test.YtifekejcbhllpaaGreatSmAa
import Derived.Test.YtifekejcbhllpaaGreatSmAb
import Derived.Test.YtifekejcbhllpaaGreatRows
import Derived.WalkKit
import Derived.Handy
import Derived.Lib.Hide
import Derived.Lib.AppendStr
import Derived.Deep.QuietTactic
import Derived.BigQuiet
import Derived.KernelRfl
import Derived.Shelf.Strings.Repeat
import Derived.Ground.NamesProg
import Derived.Lib.Agree
import Derived.Deep.MidRow
import Derived.Deep.RegionHeld3
import Derived.Shelf.Strings.BuilderK
import Derived.BigRegion
import Derived.Deep.CutBlock
import Derived.StillTailTactics
import Derived.IntWalk
import Derived.Maps.RangeWalk
import Derived.Maps.OwnSet
import Derived.ChangeSlices
import Derived.Deep.Slices
import Derived.Deep.Grids
import Derived.Deep.LoopGhost
import Derived.Deep.RegionLaw
import Derived.Deep.AppendLies

namespace Go.Proofs.YtifekejcbhllpaaGreat
open Go.RowKit
set_option linter.unusedVariables false

theorem getL_injO {a b : List UInt8} (ha : a.length = 8) (hb : b.length = 8) (h : getL a = getL b) : a = b := by
  have e1 := cat_wdL 1 a (by omega)
  have e2 := cat_wdL 1 b (by omega)
  have w1 : ∀ l : List UInt8, l.length = 8 → wdL l 0 = getL l := fun l hl => by
    unfold wdL
    rw [Nat.mul_zero, List.drop_zero, List.take_of_length_le (by omega)]
  rw [← e1, ← e2]
  simp only [List.range_one, List.map_cons, List.map_nil]
  rw [w1 a ha, w1 b hb, h]
theorem ext_listO (B : ByteArray) (x y : Nat) : (B.extract x y).data.toList = (B.data.toList.drop x).take (y - x) := by
  rw [ByteArray.data_extract, Array.toList_extract]
/-- A word of a line is eight bytes of all. -/
theorem word_list {B : ByteArray} {j : Nat} (hj : 8 * j + 8 ≤ B.size) (h64 : B.size % 64 = 0) : wdL (lnQ B (j / 8)).data.toList (j % 8) = getL (B.extract (8 * j) (8 * j + 8)).data.toList := by
  unfold wdL lnQ
  rw [ext_listO, ext_listO]
  congr 1
  rw [List.drop_take, List.drop_drop, List.take_take]
  congr 1
  · omega
  · congr 1
    omega
theorem slice_eq {B B' : ByteArray} {j : Nat} (hs : B.size = B'.size) (h64 : B.size % 64 = 0) (hj : 8 * j + 8 ≤ B.size) (h : wdL (lnQ B (j / 8)).data.toList (j % 8) = wdL (lnQ B' (j / 8)).data.toList (j % 8)) : B.extract (8 * j) (8 * j + 8) = B'.extract (8 * j) (8 * j + 8) := by
  rw [word_list hj h64, word_list (by omega) (by omega)] at h
  refine ByteArray.ext (Array.ext' (getL_injO ?_ ?_ h))
  · show (B.extract (8 * j) (8 * j + 8)).size = 8
    rw [ByteArray.size_extract]; omega
  · show (B'.extract (8 * j) (8 * j + 8)).size = 8
    rw [ByteArray.size_extract]; omega
theorem all_eq {B B' : ByteArray} {G : Nat} (hs : B.size = 512 * G) (hs' : B'.size = 512 * G) (h : ∀ g k m, g < G → k < 8 → m < 8 → wdL (lnQ B (8 * g + k)).data.toList m = wdL (lnQ B' (8 * g + k)).data.toList m) : B = B' := by
  refine bs_ext (by omega) fun i hi => ?_
  have e : lnQ B (i / 64) = lnQ B' (i / 64) := by
    have hz : ∀ D : ByteArray, D.size = 512 * G → (lnQ D (i / 64)).size = 64 := fun D hD => by
      unfold lnQ
      rw [ByteArray.size_extract]
      omega
    refine bytes_eq (hz B hs) (hz B' hs') fun m hm => ?_
    have := h (i / 512) (i % 512 / 64) m (by omega) (by omega) hm
    rw [show 8 * (i / 512) + i % 512 / 64 = i / 64 by omega] at this
    exact this
  have e2 : bs (lnQ B (i / 64)) (i % 64) = bs (lnQ B' (i / 64)) (i % 64) := by rw [e]
  unfold lnQ at e2
  rw [bs_extract _ _ _ _ (by omega), bs_extract _ _ _ _ (by omega), show 64 * (i / 64) + i % 64 = i by omega] at e2
  exact e2
/-- The law's own cells. -/
structure Tv (w : World) (bA : Nat) (s t : ByteArray) (p q r3 : Nat) (wr : World) : Prop where
  gr : Gr [] w wr
  ar : Holds wr bA #[.string s, .string t] 56
  cu : Holds wr (bA + 1) #[.int .u16 (p : Int), .int .u16 (q : Int), .int .u16 (r3 : Int)] 58
  l2 : w.heap.size ≤ bA
structure Tw (w : World) (bA gk cap : Nat) (s t : ByteArray) (p q r3 : Nat) (kf : Nat → Bool) (wr : World) : Prop where
  tv : Tv w bA s t p q r3 wr
  kb : Kb gk cap kf wr
  lg : bA + 1 < gk
section
variable {w wr w2 : World} {bA gk cap : Nat} {s t : ByteArray} {p q r3 : Nat} {kf : Nat → Bool}
theorem Tv.next (h : Tv w bA s t p q r3 wr) {bs : List Nat} (g : Gr bs wr w2) (hb : ∀ x ∈ bs, bA + 1 < x) : Tv w bA s t p q r3 w2 := by
  have h2 := h.l2
  exact ⟨h.gr.nextN g fun x hx => .inr (by have := hb x hx; omega), h.ar.gr g fun hx => by have := hb _ hx; omega, h.cu.gr g fun hx => by have := hb _ hx; omega, h2⟩
theorem Tv.next0 (h : Tv w bA s t p q r3 wr) (g : Gr [] wr w2) : Tv w bA s t p q r3 w2 := h.next g (by simp)
theorem Tw.next (h : Tw w bA gk cap s t p q r3 kf wr) {bs : List Nat} (g : Gr bs wr w2) (hb : ∀ x ∈ bs, bA + 1 < x ∧ x ≠ gk) : Tw w bA gk cap s t p q r3 kf w2 :=
  ⟨h.tv.next g fun x hx => (hb x hx).1, h.kb.gr g fun hx => (hb _ hx).2 rfl, h.lg⟩
theorem Tw.next0 (h : Tw w bA gk cap s t p q r3 kf wr) (g : Gr [] wr w2) : Tw w bA gk cap s t p q r3 kf w2 := h.next g (by simp)
end
set_option maxRecDepth 100000 in
set_option maxHeartbeats 40000000 in
theorem storn_law (s t : ByteArray) (p q r3 key : Nat) {w : World} (hp : p < 65536) (hq : q < 65536) (hr : r3 < 65536) (hk : key < 18446744073709551616) (hs2 : s.size ≤ 4611686018427387904) (ht2 : t.size ≤ 4611686018427387904) :
    Calls Tryz.prog 5 #[.agg #[.string s, .string t], .agg #[.int .u16 (p : Int), .int .u16 (q : Int), .int .u16 (r3 : Int)], .int .u64 (key : Int)] w fun e w' => e = .returned (.bool true) ∧ Gr [] w w' := by
  obtain ⟨i0, hi, hz0, hz1, hz2⟩ := info_parts infoB
  have HIN := Lib.hid (And.intro hi (And.intro hz0 (And.intro hz1 hz2)))
  have HF := Lib.hid (fun W => fresh11 key hk W)
  have HC := Lib.hid (show OkC (spC key) ∧ pgC (spC key) = 3 from ⟨(spC_ok key hk).1, (spC_ok key hk).2.1⟩)
  obtain ⟨C, hC⟩ : ∃ C, C = spC key := ⟨_, rfl⟩
  rw [← hC] at HF HC
  obtain ⟨m1, hm1⟩ : ∃ m, m = min s.size 300 := ⟨_, rfl⟩
  obtain ⟨m2, hm2⟩ : ∃ m, m = min t.size 200 := ⟨_, rfl⟩
  have hmn1 := minIsL Tryz.prog s.size m1 300 300 rfl hm1
  have hmn2 := minIsL Tryz.prog t.size m2 200 200 rfl hm2
  have hm1a : m1 ≤ s.size := by omega
  have hm2a : m2 ≤ t.size := by omega
  have HM := Lib.hid (show m1 ≤ 300 ∧ m2 ≤ 200 by omega)
  have HKey := Lib.hid hk
  have HPQ := Lib.hid (And.intro hp (And.intro hq hr))
  have hbl1 : (s.size : Int) ≤ 4611686018427387904 := by omega
  have hbl2 : (t.size : Int) ≤ 4611686018427387904 := by omega
  have im1 : (m1 : Int) ≤ (s.size : Int) := by omega
  have im2 : (m2 : Int) ≤ (t.size : Int) := by omega
  have im10 : (0 : Int) ≤ (m1 : Int) := by omega
  have im20 : (0 : Int) ≤ (m2 : Int) := by omega
  have hA0 := (Holds.new w #[.string s, .string t] 56).alloc (Obj.cells #[.int .u16 (p : Int), .int .u16 (q : Int), .int .u16 (r3 : Int)] 58)
  have hA1 := Holds.new (w.alloc (Obj.cells #[.string s, .string t] 56)) #[.int .u16 (p : Int), .int .u16 (q : Int), .int .u16 (r3 : Int)] 58
  rw [World.size_alloc] at hA1
  have hGG := ((Gr.refl [] w).alloc (Obj.cells #[.string s, .string t] 56)).alloc (Obj.cells #[.int .u16 (p : Int), .int .u16 (q : Int), .int .u16 (r3 : Int)] 58)
  have HA := Lib.hid (show Tv w w.heap.size s t p q r3 _ from ⟨hGG, hA0, hA1, Nat.le_refl _⟩)
  clear hA0 hA1 hGG hC hm1 hm2 hp hq hr hk hs2 ht2 hi hz0 hz1 hz2
  go_enter Tryz.func5, Tryz.ntmps5
  go_upto_region 1 with fail
  generalize ((w.alloc (Obj.cells #[.string s, .string t] 56)).alloc (Obj.cells #[.int .u16 (p : Int), .int .u16 (q : Int), .int .u16 (r3 : Int)] 58)) = w1 at *
  obtain ⟨bA, hbA⟩ : ∃ bA, w.heap.size = bA := ⟨_, rfl⟩
  rw [hbA] at HA ⊢
  clear hbA
  go_wp2_with fail
  refine (HF.out _).mono ?_
  rintro e w2 ⟨a, X, A, sb, rfl, h2, n2, g2⟩
  have HB := Lib.hid (show ∀ x ∈ sb :: (X.all ++ (A.all (cR C) ++ a.all)), bA + 1 < x from fun x hx => by have h3 := n2 x hx; have h4 := HA.out.cu.lt; omega)
  have H2 := Lib.hid (And.intro (HA.out.next0 g2) h2)
  clear h2 n2 g2 HA HF
  go_upto_region 2 with fail
  have k0 := kp_cell (H2.out.1.ar.cell 0)
  have k1 := kp_cell (H2.out.1.ar.cell 1)
  have hne := kp_ne w2
  refine wp_region_kp (by kernel_rfl) (by kernel_rfl) ?_
  repeat (go_big_quiet_step (fail))
  with_reducible refine wpQuiet_nil ?_
  rintro _ ⟨y, rfl⟩
  have gy := Gr.ofBelow (cs := []) y.h
  have H3 := Lib.hid (And.intro (H2.out.1.next0 gy) (H2.out.2.gr0 gy))
  clear k0 k1 hne gy H2
  generalize y.w = w3 at *
  clear y
  obtain ⟨Ta, hTa⟩ : ∃ T, T = s.extract 0 m1 := ⟨_, rfl⟩
  obtain ⟨Tb, hTb⟩ : ∃ T, T = t.extract 0 m2 := ⟨_, rfl⟩
  have hTas : Ta.size = m1 := by rw [hTa]; exact (ext_size (by omega) (by omega)).trans (by omega)
  have hTbs : Tb.size = m2 := by rw [hTb]; exact (ext_size (by omega) (by omega)).trans (by omega)
  try rw [← hTa]
  try rw [← hTb]
  clear hTa hTb hmn1 hmn2 hm1a hm2a hbl1 hbl2 im1 im2 im10 im20
  go_wp2_with fail
  refine (wakes11 _).mono ?_
  rintro e w4 ⟨rfl, g4⟩
  have H4 := Lib.hid (And.intro (H3.out.1.next0 g4) (H3.out.2.gr0 g4))
  clear g4 H3
  have HW := Lib.hid (H4.out.2.write 3 Ta (by rw [hTas, zBy_size]; have := HM.out; omega) (by rw [hTas]; have := HM.out; omega))
  go_wp2_with fail
  refine HW.out.mono ?_
  rintro e w5 ⟨rfl, h5, g5⟩
  have H5 := Lib.hid (And.intro (H4.out.1.next g5 fun x hx => HB.out x (List.mem_cons_of_mem _ hx)) h5)
  clear h5 g5 H4 HW
  obtain ⟨U0, hU0⟩ : ∃ U, U = splB (zBy 1536) 3 Ta := ⟨_, rfl⟩
  have hU0s : U0.size = 1536 := by rw [hU0, splB_size (by rw [hTas, zBy_size]; have := HM.out; omega), zBy_size]
  rw [← hU0, hTas] at H5
  clear hU0
  have HSz := Lib.hid (spsize_any H5.out.2)
  have HR1 := Lib.hid (H5.out.2.all)
  rw [hU0s] at HSz HR1
  go_wp2_with fail
  refine HSz.out.mono ?_
  rintro e w6 ⟨rfl, rfl⟩
  go_wp2_with fail
  refine HR1.out.mono ?_
  rintro e w7 ⟨rfl, g7⟩
  have H7 := Lib.hid (And.intro (H5.out.1.next0 g7) (H5.out.2.gr0 g7))
  clear g7 HSz HR1 H5
  obtain ⟨K, hK⟩ : ∃ K : Nat, K = r3 % 400 := ⟨_, rfl⟩
  have HK := Lib.hid (show K < 400 by omega)
  have y1 : (r3 : Int).tmod 400 = (K : Int) := by rw [hK]; exact (Int.ofNat_tmod r3 400).symm
  have y2 : IntKind.i64.wrap (r3 : Int) = (r3 : Int) := IntWalk.i64_in _ (by have := HPQ.out; omega)
  have y3 : IntKind.i64.wrap (K : Int) = (K : Int) := IntWalk.i64_in _ (by omega)
  have e2 : w7.cell? ⟨bA + 1, 2, none⟩ = some (.int .u16 (r3 : Int)) := H7.out.1.cu.cell 2
  clear hK
  go_upto_region 7 with fail
  clear y1 y2 y3 e2
  obtain ⟨kf, hkf⟩ : ∃ kf : Nat → Bool, ∀ k, kf k = (bits .and .u16 ((q : Int) / 2 ^ k) 1 == 1) := ⟨fun k => (bits .and .u16 ((q : Int) / 2 ^ k) 1 == 1), fun _ => rfl⟩
  have HKF := Lib.hid hkf
  clear hkf
  go_upto_region 9 with fail
  go_loopw [16, 71] (fun v z wr => ∃ k : Nat, k ≤ 16 ∧ z = .int .i64 (k : Int) ∧ wr.ownsRow w7.heap.size 4 1 v k ((List.range k).map fun j => .bool (kf j)) ∧ Gr [] w7 wr) (fun _ z _ => 16 - (intOf z).toNat)
  case atStart => exact ⟨0, by omega, rfl, World.ownsRow_nil _ _ _ _, Gr.refl _ _⟩
  case round =>
    obtain ⟨k8, hk, rfl, hown, g⟩ := hrel
    by_cases hlt : k8 < 16
    · as_aux_lemma =>
        have hd : decide ((k8 : Int) < 16) = true := by simp; omega
        have hq1 : wr.cell? ⟨bA + 1, 1, none⟩ = some (.int .u16 (q : Int)) := (H7.out.1.cu.gr0 g).cell 1
        have hsz := g.size
        have HG := Lib.hid (And.intro hown g)
        clear g
        obtain ⟨hi, hz0, hz1, hz2⟩ := HIN.out
        go_wp2_with (at_builtin; refine wpList_append_own _ rfl _ _ 59 rfl w7.heap.size 4 i0 (.bool false) 1 1 Tryz.underlying59 hi hz0 hz1 hz2 rfl (by decide) _ _ _ rfl (hown.alloc _) ⟨wr.heap.size, 0, none⟩ 1 1 [.bool (bits .and .u16 ((q : Int) / 2 ^ k8) 1 == 1)] rfl rfl ?c1 ?c2 ?c3 ?c4 ?c5 ?_)
        case c1 =>
          intro a u ha
          match a, ha with
          | 0, ha => simp at ha; subst ha; simp [Addr.add]
        case c2 => intro u hu; simp at hu; subst hu; rfl
        case c3 => unfold maxLen; omega
        case c4 => omega
        case c5 => simp; omega
        intro v' w17 hown3 hgrow _
        have HN2 := Lib.hid (show w17.ownsRow w7.heap.size 4 1 v' (k8 + 1) ((List.range (k8 + 1)).map fun j => .bool (kf j)) ∧ Gr [] w7 w17 from by
          refine ⟨?_, ?_⟩
          · rw [List.range_succ, List.map_append]
            show w17.ownsRow w7.heap.size 4 1 v' (k8 + 1) (_ ++ [.bool (kf k8)])
            rw [HKF.out k8]
            exact hown3
          · exact ((HG.out.2.alloc _).grown hgrow (fun x hx => .inr (hown.lt x hx).1)))
        clear hown3 hgrow hown hq1 hi hz0 hz1 hz2
        go_wp2_with fail
        go_roundw
        case rel => exact ⟨k8 + 1, by omega, by go_num, HN2.out.1, HN2.out.2⟩
        case measure => simp [intOf]; omega
    · obtain rfl : k8 = 16 := by omega
      obtain ⟨gk, cap, hv, hlow, hkb⟩ := keep_of16 hown
      subst hv
      have HG6 := Lib.hid (show bA + 1 < gk ∧ ∀ x ∈ sb :: (X.all ++ (A.all (cR C) ++ a.all)), bA + 1 < x ∧ x ≠ gk from ⟨by have := H7.out.1.cu.lt; omega, fun x hx => ⟨HB.out x hx, fun e => by have := H7.out.2.lt x hx; omega⟩⟩)
      have HAA := Lib.hid (show ∀ x ∈ a.all, bA + 1 < x ∧ x ≠ gk from fun x hx => HG6.out.2 x (List.mem_cons_of_mem _ (List.mem_append.2 (.inr (List.mem_append.2 (.inr hx))))))
      have H8 := Lib.hid (And.intro (show Tw w bA gk cap s t p q r3 kf wr from ⟨H7.out.1.next0 g, hkb, HG6.out.1⟩) (H7.out.2.gr0 g))
      clear hown g hlow hkb H7 HKF HB hk hlt
      rw [show ((16 : Nat) : Int) = 16 from rfl]
      obtain ⟨w8, hw8⟩ : ∃ w8, w8 = wr := ⟨_, rfl⟩
      rw [← hw8] at H8 ⊢
      clear hw8
      obtain ⟨Fz, hFz⟩ : ∃ Fz : Nat, 1 + (p : Int) % 200 = (Fz : Int) := ⟨1 + p % 200, by omega⟩
      obtain ⟨Fy, hFy⟩ : ∃ Fy : Nat, 1 + (p : Int) % 90 = (Fy : Int) := ⟨1 + p % 90, by omega⟩
      have HFy := Lib.hid (show 1 + (p : Int) % 90 = (Fy : Int) ∧ Fy ≤ 90 from ⟨hFy, by omega⟩)
      have hp1 := H8.out.1.tv.cu.cell 0
      have hFw : IntKind.i64.wrap (Fz : Int) = (Fz : Int) := IntWalk.i64_in _ (by omega)
      have HFu := Lib.hid (H8.out.2.fuse (Fz : Int) (by omega))
      clear hFy
      go_wp2_with fail
      refine HFu.out.mono ?_
      rintro e w9 ⟨rfl, h9, g9⟩
      have H9 := Lib.hid (And.intro (H8.out.1.next g9 HAA.out) h9)
      clear h9 g9 hp1 hFz hFw HFu H8
      have HWt := Lib.hid (H9.out.2.writeT K Tb (by rw [hTbs, hU0s]; have := HK.out; have := HM.out; omega) (by rw [hTbs]; have := HM.out; omega))
      obtain ⟨U, hU⟩ : ∃ U, U = splB U0 K Tb := ⟨_, rfl⟩
      have hUs : U.size = 1536 := by rw [hU, splB_size (by rw [hTbs, hU0s]; have := HK.out; have := HM.out; omega), hU0s]
      rw [← hU, hTbs] at HWt
      go_wp2_with fail
      refine HWt.out.mono ?_
      rintro e w10 ⟨x, rfl, hx, g10⟩
      have H10 := Lib.hid (And.intro (H9.out.1.next g10 fun x hx => HG6.out.2 x (List.mem_cons_of_mem _ hx)) hx)
      clear hx g10 HWt H9
      obtain ⟨E, d10, b10, hb10⟩ := H10.out.2.2
      have HE := Lib.hid (And.intro d10 (And.intro b10 hb10))
      have HX0 := Lib.hid H10.out.2.1
      clear d10 b10 hb10
      have HBo := Lib.hid (boot_any a E _ 16 _ w10 HE.out.1 H10.out.1.kb.keep (fun l => by have := HE.out.2.1.2 l; have := HM.out; omega) (by have := HE.out.2.1.1; have := HM.out; omega))
      go_wp2_with fail
      refine HBo.out.mono ?_
      rintro e w11 ⟨rfl, ⟨LL, hLL, d11⟩, g11⟩
      obtain ⟨F3, V3, B3, j3, hfd, Z, z1, z2, z3⟩ := HE.out.2.2 LL (fun j => if j < 16 then kf j else false) hLL
      have H11 := Lib.hid (And.intro (H10.out.1.next g11 HAA.out) d11)
      obtain ⟨D1, y4, y5, y6⟩ := openT HC.out.1 (by have := HC.out.2; omega) (by have := HC.out.2; omega) hfd z1 (by omega) d11 (by have := HM.out; omega)
      have HOp := Lib.hid y6
      have hD1s : D1.size = 1536 := by rw [y4, HC.out.2]
      have HD1 := Lib.hid (show (∀ g k m, g < pgC C → k < 8 → m < 8 → wdL (lnQ D1 (8 * g + k)).data.toList m = wdL (lnQ U0 (8 * g + k)).data.toList m ∨ wdL (lnQ D1 (8 * g + k)).data.toList m = wdL (lnQ U (8 * g + k)).data.toList m) ∧ (x = 0 → D1 = U) from ⟨fun g k m hg hk hm => by rw [y5 g k m hg hk hm]; exact z2 g k m hg hk hm, fun e => all_eq (G := 3) (by omega) (by omega) fun g k m hg hk hm => by
        rw [y5 g k m (by rw [HC.out.2]; exact hg) hk hm]
        exact z3 e g k m (by rw [HC.out.2]; exact hg) hk hm⟩)
      clear z1 z2 z3 y4 y5 y6 hfd hLL d11 g11 HBo HE H10
      go_wp2_with fail
      refine HOp.out.mono ?_
      rintro e w12 ⟨X3, A3, sb3, rfl, h12, n12, g12⟩
      have HG12 := Lib.hid (show ∀ x ∈ sb3 :: (X3.all ++ (A3.all (cR C) ++ a.all)), bA + 1 < x ∧ x ≠ gk from fun x hx => by
        have h3 := H11.out.1.kb.lt
        have h4 := H11.out.1.lg
        rcases List.mem_cons.1 hx with rfl | hx
        · have := n12 x (by simp)
          exact ⟨by omega, by omega⟩
        · rcases List.mem_append.1 hx with hx | hx
          · have := n12 x (List.mem_cons_of_mem _ (List.mem_append.2 (.inl hx)))
            exact ⟨by omega, by omega⟩
          · rcases List.mem_append.1 hx with hx | hx
            · have := n12 x (List.mem_cons_of_mem _ (List.mem_append.2 (.inr hx)))
              exact ⟨by omega, by omega⟩
            · exact HAA.out x hx)
      have H12 := Lib.hid (And.intro (H11.out.1.next0 g12) h12)
      clear h12 n12 g12 HOp H11
      go_upto_region 17 with fail
      go_cut [113] (fun c wz => c = .bool false ∧ wz = w12)
      case first =>
        rcases HX0.out with rfl | rfl
        all_goals
          go_wp2_with fail
          go_meet
          exact ⟨rfl, rfl⟩
      case rest =>
        obtain ⟨rfl, hw⟩ := hcut
        rw [← hw] at H12
        clear hw
        obtain ⟨E1, hE1⟩ : ∃ E1, E1 = K + m2 := ⟨_, rfl⟩
        have u1 : IntKind.i64.wrap ((K : Int) + (m2 : Int)) = (E1 : Int) := by rw [show (K : Int) + (m2 : Int) = (E1 : Int) by omega]; exact IntWalk.i64_in _ (by have := HK.out; have := HM.out; omega)
        have l1 : (E1 : Int) ≤ 1536 := by have := HK.out; have := HM.out; omega
        have l2 : E1 ≤ 1536 := by have := HK.out; have := HM.out; omega
        have l3 : (0 : Int) ≤ (E1 : Int) := by omega
        have l4 : (K : Int) ≤ 1536 := by have := HK.out; omega
        have l5 : K ≤ 1536 := by have := HK.out; omega
        have l6 : (0 : Int) ≤ (K : Int) := by omega
        have HUe := Lib.hid (show U0.extract 0 K ++ Tb ++ U0.extract E1 1536 = U from by rw [hU]; unfold splB; rw [hTbs, hU0s, hE1])
        clear hU hE1
        go_upto_region 19 with fail
        have hne := kp_ne wc
        have s1 : (U0.extract 0 K).size = K := (ext_size (by omega) (by omega)).trans (by omega)
        have s2 : (U0.extract E1 1536).size = 1536 - E1 := ext_size (by omega) (by omega)
        have v1 : ¬ 9223372036854775807 < (U0.extract 0 K).size + Tb.size := by rw [s1, hTbs]; have := HK.out; have := HM.out; omega
        have v2 : ¬ 9223372036854775807 < (U0.extract 0 K ++ Tb).size + (U0.extract E1 1536).size := by rw [ByteArray.size_append, s1, s2, hTbs]; have := HK.out; have := HM.out; omega
        refine wp_region_kp (by kernel_rfl) (by kernel_rfl) ?_
        repeat (go_big_quiet_step (fail))
        with_reducible refine wpQuiet_nil ?_
        rintro _ ⟨y, rfl⟩
        have gy := Gr.ofBelow (cs := []) y.h
        have H13 := Lib.hid (And.intro (H12.out.1.next0 gy) (H12.out.2.gr0 gy))
        clear hne gy H12 s1 s2 u1
        generalize y.w = w13 at *
        clear y
        try rw [HUe.out]
        have HSz := Lib.hid (spsize_any H13.out.2)
        have HR1 := Lib.hid (H13.out.2.all)
        rw [hD1s] at HSz HR1
        go_wp2_with fail
        refine HSz.out.mono ?_
        rintro e w14 ⟨rfl, rfl⟩
        go_wp2_with fail
        refine HR1.out.mono ?_
        rintro e w15 ⟨rfl, g15⟩
        have H15 := Lib.hid (And.intro (H13.out.1.next0 g15) (H13.out.2.gr0 g15))
        clear g15 HSz HR1 H13
        go_upto_region 21 with fail
        go_cut [150] (fun c wz => c = .bool false ∧ wz = w15)
        case first =>
          rcases HX0.out with rfl | rfl
          · obtain rfl := HD1.out.2 rfl
            go_wp2_with fail
            go_meet
            exact ⟨rfl, rfl⟩
          · go_wp2_with fail
            go_meet
            exact ⟨rfl, rfl⟩
        case rest =>
          obtain ⟨rfl, hw⟩ := hcut
          rw [← hw] at H15
          clear hw
          go_upto_region 24 with fail
          go_loopw [22] (fun z wr => ∃ j : Nat, j ≤ 192 ∧ z = .int .i64 ((8 * j : Nat) : Int) ∧ wr = wc) (fun z _ => 1536 - (intOf z).toNat)
          case atStart => exact ⟨0, by omega, rfl, rfl⟩
          case round =>
            obtain ⟨j, hj, rfl, hw⟩ := hrel
            have HW0 := Lib.hid hw
            rw [← hw] at H15
            clear hw
            obtain ⟨K8, hK8⟩ : ∃ K8, K8 = 8 * j := ⟨_, rfl⟩
            rw [← hK8]
            by_cases hlt : j < 192
            · as_aux_lemma =>
                have hd : decide ((K8 : Int) < 1536) = true := by simp; omega
                obtain ⟨K9, hK9⟩ : ∃ K9, K9 = K8 + 8 := ⟨_, rfl⟩
                have u1 : IntKind.i64.wrap ((K8 : Int) + 8) = (K9 : Int) := by rw [show (K8 : Int) + 8 = (K9 : Int) by omega]; exact IntWalk.i64_in _ (by omega)
                have l1 : (K8 : Int) ≤ (K9 : Int) := by omega
                have l2 : K8 ≤ K9 := by omega
                have l3 : (0 : Int) ≤ (K8 : Int) := by omega
                have l4 : (K9 : Int) ≤ 1536 := by omega
                have l5 : K9 ≤ 1536 := by omega
                have l6 : (0 : Int) ≤ (K9 : Int) := by omega
                have HJ := Lib.hid (And.intro hj (And.intro hlt (And.intro hK8 hK9)))
                have HE := Lib.hid (show D1.extract K8 K9 = U0.extract K8 K9 ∨ D1.extract K8 K9 = U.extract K8 K9 from by
                  rw [hK9, hK8]
                  have hc := HC.out.2
                  rcases HD1.out.1 (j / 64) (j % 64 / 8) (j % 8) (by omega) (by omega) (by omega) with h | h
                  · rw [show 8 * (j / 64) + j % 64 / 8 = j / 8 by omega] at h
                    exact .inl (slice_eq (by omega) (by omega) (by omega) h)
                  · rw [show 8 * (j / 64) + j % 64 / 8 = j / 8 by omega] at h
                    exact .inr (slice_eq (by omega) (by omega) (by omega) h))
                clear hj hlt hK8 hK9
                go_upto_region 27 with fail
                by_cases hc : D1.extract K8 K9 = U0.extract K8 K9
                · rw [hc]
                  go_wp2_with fail
                  go_roundw
                  case rel => exact ⟨j + 1, by have := HJ.out; omega, by have := HJ.out; rw [show 8 * (j + 1) = K9 by omega], HW0.out⟩
                  case measure => have := HJ.out; simp [intOf]; omega
                · have he := HE.out.resolve_left hc
                  rw [he] at hc ⊢
                  go_wp2_with fail
                  all_goals
                    first
                    | exact ⟨⟨j + 1, by have := HJ.out; omega, by have := HJ.out; rw [show 8 * (j + 1) = K9 by omega], HW0.out⟩, by have := HJ.out; simp [intOf]; omega⟩
                    | (go_roundw
                       case rel => exact ⟨j + 1, by have := HJ.out; omega, by have := HJ.out; rw [show 8 * (j + 1) = K9 by omega], HW0.out⟩
                       case measure => have := HJ.out; simp [intOf]; omega)
            · obtain rfl : j = 192 := by omega
              subst hK8
              clear hlt hj HX0
              obtain ⟨hFy, hFy2⟩ := HFy.out
              have hp1 := H15.out.1.tv.cu.cell 0
              have hFw : IntKind.i64.wrap (Fy : Int) = (Fy : Int) := IntWalk.i64_in _ (by omega)
              have HFu := Lib.hid (H15.out.2.fuse (Fy : Int) (by omega))
              rw [show ((8 * 192 : Nat) : Int) = 1536 from rfl]
              go_wp2_with fail
              refine HFu.out.mono ?_
              rintro e w16 ⟨rfl, h16, g16⟩
              have H16 := Lib.hid (And.intro (H15.out.1.next g16 HAA.out) h16)
              clear h16 g16 hp1 hFy hFy2 hFw HFu H15
              obtain ⟨q8, hq8⟩ : ∃ q, q = K / 8 := ⟨_, rfl⟩
              have HWw := Lib.hid (spww_in H16.out.2 q8 key (by rw [hD1s]; have := HK.out; omega) HKey.out (by have := HM.out; omega))
              have d1 : (K : Int).tdiv 8 = (q8 : Int) := (Int.ofNat_tdiv K 8).symm.trans (by omega)
              have d2 : IntKind.i64.wrap (q8 : Int) = (q8 : Int) := IntWalk.i64_in _ (by have := HK.out; omega)
              obtain ⟨k8, hk8⟩ : ∃ k, k = 8 * q8 := ⟨_, rfl⟩
              have d3 : IntKind.i64.wrap ((q8 : Int) * 8) = (k8 : Int) := by rw [show (q8 : Int) * 8 = (k8 : Int) by omega]; exact IntWalk.i64_in _ (by have := HK.out; omega)
              have HQ8 := Lib.hid (And.intro hq8 hk8)
              rw [← hk8] at HWw
              clear hq8 hk8
              go_wp2_with fail
              refine HWw.out.mono ?_
              rintro e w17 ⟨x2, rfl, hx, g17⟩
              have H17 := Lib.hid (And.intro (H16.out.1.next g17 fun x hx => HG12.out x (List.mem_cons_of_mem _ hx)) hx)
              clear hx g17 HWw H16
              obtain ⟨E2, d17, b17, hb17⟩ := H17.out.2.2
              have HE2 := Lib.hid (And.intro d17 (And.intro b17 hb17))
              clear d17 b17 hb17
              have HBo := Lib.hid (boot_any a E2 _ 16 _ w17 HE2.out.1 H17.out.1.kb.keep (fun l => by have := HE2.out.2.1.2 l; have := HM.out; omega) (by have := HE2.out.2.1.1; have := HM.out; omega))
              go_wp2_with fail
              refine HBo.out.mono ?_
              rintro e w18 ⟨rfl, ⟨LL, hLL, d18⟩, g18⟩
              obtain ⟨F4, V4, B4, j4, hfd, Z, z1, z2⟩ := HE2.out.2.2 LL (fun j => if j < 16 then kf j else false) hLL
              have H18 := Lib.hid (H17.out.1.next g18 HAA.out)
              obtain ⟨D2, y4, y5, y6⟩ := openT HC.out.1 (by have := HC.out.2; omega) (by have := HC.out.2; omega) hfd z1 (by omega) d18 (by have := HM.out; omega)
              have HOp := Lib.hid y6
              have hD2s : D2.size = 1536 := by rw [y4, HC.out.2]
              have HD2 := Lib.hid (show wdL (lnQ D2 (q8 / 8)).data.toList (q8 % 8) = key ∨ (x2 = 6 ∧ wdL (lnQ D2 (q8 / 8)).data.toList (q8 % 8) = getL ((D1.extract k8 (k8 + 8)).data.toList.take 8)) from by
                have hc := HC.out.2
                have hkk := HK.out
                obtain ⟨hq8, hk8⟩ := HQ8.out
                have e := y5 (q8 / 64) (q8 % 64 / 8) (q8 % 8) (by omega) (by omega) (by omega)
                rw [show 8 * (q8 / 64) + q8 % 64 / 8 = q8 / 8 by omega] at e
                rw [e]
                have hsz : (D1.extract k8 (k8 + 8)).data.toList.length = 8 := by
                  show (D1.extract k8 (k8 + 8)).size = 8
                  rw [ByteArray.size_extract]; omega
                rw [List.take_of_length_le (by omega)]
                rcases z2 with z2 | ⟨z2, z3⟩
                · exact .inl z2
                · refine .inr ⟨z2, z3.trans ?_⟩
                  rw [hk8]
                  exact word_list (by omega) (by omega))
              clear z1 z2 y4 y5 y6 hfd hLL d18 g18 HBo HE2 H17
              go_wp2_with fail
              refine HOp.out.mono ?_
              rintro e w19 ⟨X4, A4, sb4, rfl, h19, n19, g19⟩
              have H19 := Lib.hid (And.intro (H18.out.next0 g19) h19)
              clear h19 n19 g19 HOp H18
              have HWd := Lib.hid (spword_in H19.out.2 q8 (by rw [hD2s]; have := HQ8.out; have := HK.out; omega))
              rw [← HQ8.out.2] at HWd
              obtain ⟨W2, hW2⟩ : ∃ W, W = wdL (lnQ D2 (q8 / 8)).data.toList (q8 % 8) := ⟨_, rfl⟩
              rw [← hW2] at HWd HD2
              clear hW2
              go_wp2_with fail
              refine HWd.out.mono ?_
              rintro e w20 ⟨rfl, g20⟩
              have H20 := Lib.hid (H19.out.1.next0 g20).tv.gr
              clear g20 H19 HWd
              go_upto_region 36 with fail
              by_cases hkq : W2 = key
              · subst hkq
                go_wp2_with fail
                go_ret
                exact ⟨rfl, H20.out⟩
              · obtain ⟨rfl, hg2⟩ := HD2.out.resolve_left hkq
                have hkq2 : ¬ (W2 : Int) = (key : Int) := fun e => hkq (by omega)
                obtain ⟨k9, hk9⟩ : ∃ k, k = k8 + 8 := ⟨_, rfl⟩
                rw [← hk9] at hg2
                have f0 := HQ8.out
                have f1 := HK.out
                have u1 : IntKind.i64.wrap ((k8 : Int) + 8) = (k9 : Int) := by rw [show (k8 : Int) + 8 = (k9 : Int) by omega]; exact IntWalk.i64_in _ (by omega)
                have l1 : (k8 : Int) ≤ (k9 : Int) := by omega
                have l2 : k8 ≤ k9 := by omega
                have l3 : (0 : Int) ≤ (k8 : Int) := by omega
                have l4 : (k9 : Int) ≤ 1536 := by omega
                have l5 : k9 ≤ 1536 := by omega
                have l6 : (0 : Int) ≤ (k9 : Int) := by omega
                have HGe := Lib.hid (fun W => get_any (D1.extract k8 k9) W (by rw [ByteArray.size_extract]; unfold maxLen; omega))
                rw [← hg2] at HGe
                clear f0 f1 hg2 hk9
                go_wp2_with fail
                refine (HGe.out _).mono ?_
                rintro e w21 ⟨rfl, rfl⟩
                go_wp2_with fail
                go_ret
                exact ⟨rfl, H20.out⟩
end Go.Proofs.YtifekejcbhllpaaGreat
