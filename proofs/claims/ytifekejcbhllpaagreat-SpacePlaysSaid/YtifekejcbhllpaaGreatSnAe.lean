/-
  SpacePlays' walk.
-/
import Derived.Test.YtifekejcbhllpaaGreatSkAe
import Derived.Test.YtifekejcbhllpaaGreatSkAf
import Derived.Test.YtifekejcbhllpaaGreatSkAg
import Derived.Test.YtifekejcbhllpaaGreatSkAa
import Derived.Test.YtifekejcbhllpaaGreatSkAb
import Derived.Test.YtifekejcbhllpaaGreatSkAc
import Derived.Test.YtifekejcbhllpaaGreatSkAd
import Derived.Test.YtifekejcbhllpaaGreatSkAh
import Derived.Test.YtifekejcbhllpaaGreatSkAi
import Derived.Test.YtifekejcbhllpaaGreatSkAj
import Derived.Test.YtifekejcbhllpaaGreatSkAk
import Derived.Test.YtifekejcbhllpaaGreatSkAl
import Derived.Test.YtifekejcbhllpaaGreatSkAn
import Derived.Test.YtifekejcbhllpaaGreatSkAo
import Derived.Test.YtifekejcbhllpaaGreatSkAm
import Derived.Test.YtifekejcbhllpaaGreatSkAp
import Derived.Test.YtifekejcbhllpaaGreatSkAq
import Derived.Test.YtifekejcbhllpaaGreatSkAr
import Derived.Test.YtifekejcbhllpaaGreatSkAt
import Derived.Test.YtifekejcbhllpaaGreatSkAu
import Derived.Test.YtifekejcbhllpaaGreatSkAs
import Derived.Test.YtifekejcbhllpaaGreatSkAv
import Derived.Test.YtifekejcbhllpaaGreatSkAw
import Derived.Test.YtifekejcbhllpaaGreatSkAx
import Derived.Test.YtifekejcbhllpaaGreatSkAy
import Derived.Test.YtifekejcbhllpaaGreatSkAz
import Derived.Test.YtifekejcbhllpaaGreatSkBa
import Derived.Test.YtifekejcbhllpaaGreatSkBb
import Derived.Test.YtifekejcbhllpaaGreatSkBc
import Derived.Test.YtifekejcbhllpaaGreatSkBd
import Derived.Test.YtifekejcbhllpaaGreatSkBe
import Derived.Test.YtifekejcbhllpaaGreatSkBf
import Derived.Test.YtifekejcbhllpaaGreatSkBg
import Derived.Test.YtifekejcbhllpaaGreatSkBh
import Derived.Test.YtifekejcbhllpaaGreatSkBi
import Derived.Test.YtifekejcbhllpaaGreatSkBj
import Derived.Test.YtifekejcbhllpaaGreatSkBk
import Derived.Test.YtifekejcbhllpaaGreatSkBl
import Derived.Test.YtifekejcbhllpaaGreatSkBm
import Derived.Test.YtifekejcbhllpaaGreatSkBn
import Derived.Test.YtifekejcbhllpaaGreatSnAd
import Derived.Test.YtifekejcbhllpaaGreatSnAa
import Derived.Test.YtifekejcbhllpaaGreatRows
import Derived.WalkKit
import Derived.Handy
import Derived.Lib.Hide
import Derived.Lib.AppendStr
import Derived.Deep.QuietTactic
import Derived.BigQuiet
import Derived.KernelRfl
import Derived.Shelf.Strings.Repeat
import Derived.Ground.NamesProg
import Derived.Lib.Agree
import Derived.Deep.CutBlock
import Derived.Deep.RegionHeld3

namespace Go.Proofs.YtifekejcbhllpaaGreat
open Go.RowKit
set_option linter.unusedVariables false

set_option maxRecDepth 20000 in
theorem repeat1536 (w : World) : Calls Tryz.prog 9 #[.string ⟨#[0]⟩, .int .i64 1536] w fun e w' => e = .returned (.string (zBy 1536)) ∧ Gr [] w w' := by
  have h := Any.strings_Repeat LnR.lays LnR.extra ⟨#[0]⟩ 1536 w (by omega) (by decide)
  rw [LnR.fRepeat] at h
  refine h.mono ?_
  rintro e w' ⟨rfl, hb⟩
  exact ⟨rfl, .ofBelow hb⟩
/-- The law's state behind n acts. -/
structure Sz (w : World) (C : CfgZ) (a : DevA) (X : HtA) (A : FlA) (sb : Nat) (B : ByteArray) (n : Nat) (wr : World) : Prop where
  gr : Gr [] w wr
  sp : HSp C X A a false true 3 sb B (300000 + 8400000 * n) wr
  lo : ∀ x ∈ sb :: (X.all ++ (A.all (cR C) ++ a.all)), w.heap.size ≤ x
section
variable {w wr w2 : World} {C : CfgZ} {a : DevA} {X : HtA} {A : FlA} {sb n : Nat} {B B2 : ByteArray}
theorem Sz.next0 (h : Sz w C a X A sb B n wr) (g : Gr [] wr w2) : Sz w C a X A sb B n w2 := ⟨h.gr.trans g, h.sp.gr0 g, h.lo⟩
theorem Sz.more (h : Sz w C a X A sb B n wr) : Sz w C a X A sb B (n + 1) wr := ⟨h.gr, h.sp.more (by omega), h.lo⟩
theorem Sz.moved {N : Nat} (h : Sz w C a X A sb B n wr) (q : HSp C X A a false true 3 sb B2 N w2) (g : Gr (X.all ++ (A.all (cR C) ++ a.all)) wr w2) (hN : N ≤ 300000 + 8400000 * (n + 1)) : Sz w C a X A sb B2 (n + 1) w2 :=
  ⟨h.gr.nextN g fun x hx => .inr (h.lo x (List.mem_cons_of_mem _ hx)), q.more hN, h.lo⟩
end
set_option maxRecDepth 100000 in
set_option maxHeartbeats 40000000 in
theorem splays_law (key : Nat) (v : Value) {w : World} (hk : key < 18446744073709551616) (hv : SlS w v) :
    Calls Tryz.prog 3 #[.int .u64 (key : Int), v] w fun e w' => e = .returned (.bool true) ∧ Gr [] w w' := by
  have HV := Lib.hid hv
  have HF := Lib.hid (fresh11 key hk w)
  have HC := Lib.hid (show OkC (spC key) ∧ pgC (spC key) = 3 from ⟨(spC_ok key hk).1, (spC_ok key hk).2.1⟩)
  obtain ⟨C, hC⟩ : ∃ C, C = spC key := ⟨_, rfl⟩
  rw [← hC] at HF HC
  clear hC hv hk
  go_enter Tryz.func3, Tryz.ntmps3
  go_wp2_with fail
  refine HF.out.mono ?_
  rintro e w2 ⟨a, X, A, sb, rfl, h2, n2, g2⟩
  have H2 := Lib.hid (show Sz w C a X A sb (zBy 1536) 0 w2 from ⟨g2, (HSp.weak h2).more (by omega), n2⟩)
  clear h2 n2 g2 HF
  go_wp2_with fail
  refine (wakes11 _).mono ?_
  rintro e w3 ⟨rfl, g3⟩
  have H3 := Lib.hid (H2.out.next0 g3)
  clear g3 H2
  have HSz := Lib.hid (spsize_any H3.out.sp)
  rw [zBy_size] at HSz
  go_wp2_with fail
  refine HSz.out.mono ?_
  rintro e w4 ⟨rfl, rfl⟩
  clear HSz
  go_wp2_with fail
  refine (repeat1536 _).mono ?_
  rintro e w5 ⟨rfl, g5⟩
  have H5 := Lib.hid (H3.out.next0 g5)
  clear g5 H3
  go_upto_region 5 with fail
  go_cut [47, 48, 49] (fun sv nv iv wz => wz = w5 ∧ iv = .int .i64 0 ∧ ∃ (M cap : Nat) (ao : Option Addr), sv = .slice ao M cap ∧ nv = .int .i64 (M : Int) ∧ M ≤ 25 ∧ ∀ k, k < M → ∃ (vb off : Nat) (x : ActS), ao = some ⟨vb, off, none⟩ ∧ vb < w.heap.size ∧ ActSIs x ∧ ActSAt w vb (off + k * 4) x)
  case first =>
    rcases HV.out with ⟨ao, cap, rfl, hn, hm⟩ | ⟨vb, off, N, cap, xs, rfl, h1, h2, h3, h4, h5⟩
    · have hmn := minIsL Tryz.prog 0 0 25 25 rfl rfl
      have HNN := Lib.hid hn
      unfold maxLen at hm
      clear hn HV
      cases ao
      case none =>
        obtain rfl := HNN.out rfl
        go_wp2_with fail
        go_meet
        exact ⟨rfl, rfl, 0, 0, none, rfl, rfl, by omega, fun k hk => by omega⟩
      case some ad =>
        go_wp2_with fail
        go_meet
        exact ⟨rfl, rfl, 0, _, _, rfl, rfl, by omega, fun k hk => by omega⟩
    · obtain ⟨M, hM⟩ : ∃ M, M = min N 25 := ⟨_, rfl⟩
      have hmn := minIsL Tryz.prog N M 25 25 rfl hM
      have hM1 : M ≤ N := by omega
      have HM12 := Lib.hid (show M ≤ 25 by omega)
      have HCl := Lib.hid h5
      have HVB := Lib.hid h4
      unfold maxLen at h3
      clear hM h4 h5 HV
      have HML1 := Lib.hid hM1
      go_wp2_with fail
      go_meet
      exact ⟨rfl, rfl, M, _, _, rfl, rfl, HM12.out, fun k hk => ⟨vb, off, xs k, rfl, HVB.out, HCl.out k (by have := HML1.out; omega)⟩⟩
  case rest =>
    obtain ⟨hwc, rfl, M, cap, ao, rfl, rfl, hM25, hcl⟩ := hcut
    rw [← hwc] at H5
    have HCl := Lib.hid hcl
    have HM25 := Lib.hid hM25
    clear hcl HV hM25 hwc
    go_wp2_with fail
    go_loopw [6, 7, 8, 9, 49] (fun sv pv ov kv z wr => ∃ (n : Nat) (B : ByteArray) (X : HtA) (A : FlA) (sb : Nat), n ≤ M ∧ z = .int .i64 (n : Int) ∧ sv = .pointer (some ⟨sb, 0, none⟩) ∧ pv = .pointer (some ⟨X.pb, 0, none⟩) ∧ ov = .bool true ∧ kv = .string B ∧ Hid (Sz w C a X A sb B n wr)) (fun _ _ _ _ z _ => M - (intOf z).toNat)
    case atStart => exact ⟨0, _, _, _, _, by omega, rfl, rfl, rfl, rfl, rfl, H5⟩
    case round =>
      clear H5
      obtain ⟨n, B, X, A, sb, hn, rfl, rfl, rfl, rfl, rfl, HA⟩ := hrel
      by_cases hnM : n < M
      · skip
        obtain ⟨vb, off, x, rfl, hvb, hxi, e0, e1, e2, e3⟩ := HCl.out n hnM
        have e0 := (HA.out.gr.cell0 hvb).trans e0
        have e1 := (HA.out.gr.cell0 hvb).trans e1
        have e2 := (HA.out.gr.cell0 hvb).trans e2
        have e3 := (HA.out.gr.cell0 hvb).trans e3
        obtain ⟨xd, xz, xs, xv⟩ := x
        dsimp only at e0 e1 e2 e3
        have HXI := Lib.hid hxi
        unfold ActSIs at HXI
        dsimp only at HXI
        have ik : (n : Int) < (M : Int) := by omega
        have HNM := Lib.hid (show n + 1 ≤ M by omega)
        have HN25 := Lib.hid (show n + 1 ≤ 25 by have := HM25.out; omega)
        have hk0 : (0 : Int) ≤ (n : Int) := by omega
        have HBs := Lib.hid (show B.size = 1536 by have := HA.out.sp.sz; have := HC.out.2; omega)
        clear hxi hvb
        go_upto_region 8 with fail
        have ht := Holds.new wr #[.int .i64 xd, .int .i64 xz, .string xs, .int .u64 (xv : Int)] 33
        have ga := (Gr.refl [] wr).alloc (Obj.cells #[.int .i64 xd, .int .i64 xz, .string xs, .int .u64 (xv : Int)] 33)
        have HD := Lib.hid (HA.out.next0 ga)
        have HT := Lib.hid ht
        have HTb := Lib.hid (show ∀ x ∈ X.all ++ (A.all (cR C) ++ a.all), x ≠ wr.heap.size from fun x hx => by have := HA.out.sp.lt x (List.mem_cons_of_mem _ hx); omega)
        clear ht ga e0 e1 e2 e3 HA
        generalize (wr.alloc (Obj.cells #[.int .i64 xd, .int .i64 xz, .string xs, .int .u64 (xv : Int)] 33)) = w6 at *
        obtain ⟨tb, htb⟩ : ∃ tb, wr.heap.size = tb := ⟨_, rfl⟩
        rw [htb] at HT HTb ⊢
        clear htb
        have c2 := HT.out.cell 2
        obtain ⟨m, hm⟩ : ∃ m, m = min xs.size 200 := ⟨_, rfl⟩
        have hmn := minIsL Tryz.prog xs.size m 200 200 rfl hm
        have hm1a : m ≤ xs.size := by omega
        have hbl1 : (xs.size : Int) ≤ 9223372036854775807 := by have := HXI.out.2.2.1; unfold maxLen at this; omega
        have im1 : (m : Int) ≤ (xs.size : Int) := by omega
        have im10 : (0 : Int) ≤ (m : Int) := by omega
        have HM := Lib.hid (show m ≤ 200 by omega)
        have HTm := Lib.hid (show (xs.extract 0 m).size = m from (ext_size (by omega) (by omega)).trans (by omega))
        clear hm
        go_upto_region 9 with fail
        obtain ⟨T, hT⟩ : ∃ T, T = xs.extract 0 m := ⟨_, rfl⟩
        have hTs : T.size = m := by rw [hT]; exact HTm.out
        rw [← hT]
        clear hT HTm hmn hm1a hbl1 im1 im10 c2
        have hBs := HBs.out
        have hd0 := mx_nonneg xd
        have hmx := max0 Tryz.prog
        have c0 := HT.out.cell 0
        have i5 : (mx xd).tmod 5 = mx xd % 5 := Int.tmod_eq_emod_of_nonneg hd0
        have m1 := Int.emod_nonneg (mx xd) (show (5 : Int) ≠ 0 by omega)
        have m2 := Int.emod_lt_of_pos (mx xd) (show (0 : Int) < 5 by omega)
        have w2' : IntKind.i64.wrap (mx xd % 5) = mx xd % 5 := IntWalk.i64_in _ (by omega)
        obtain ⟨s5, hs5⟩ : ∃ s5, s5 = mx xd % 5 := ⟨_, rfl⟩
        rw [← hs5] at i5 m1 m2 w2'
        go_upto_block 2 with fail
        go_cut [6, 7, 8, 9] (fun sv pv ov kv wz => ∃ (B : ByteArray) (X : HtA) (A : FlA) (sb : Nat), sv = .pointer (some ⟨sb, 0, none⟩) ∧ pv = .pointer (some ⟨X.pb, 0, none⟩) ∧ ov = .bool true ∧ kv = .string B ∧ Hid (Sz w C a X A sb B (n + 1) wz))
        case first =>
          by_cases h3 : s5 = 3
          · as_aux_lemma =>
              have hb0 : (s5 == 0) = false := by simp; omega
              have hb1 : (s5 == 1) = false := by simp; omega
              have hb2 : (s5 == 2) = false := by simp; omega
              have hb : (s5 == 3) = true := by simpa using h3
              clear h3
              go_upto_region 39 with fail
              clear c0 hmx hd0 i5 m1 m2 w2' hb hb0 hb1 hb2 hs5
              go_wp2_with fail
              refine (HD.out.sp.again (by have := HN25.out; omega)).mono ?_
              rintro e w7 ⟨X2, A2, sb2, rfl, q7, n7, g7⟩
              have H7 := Lib.hid (show Sz w C a X2 A2 sb2 B (n + 1) w7 from ⟨HD.out.gr.trans g7, q7.more (by omega), fun x hx => by
                have hs := HD.out.gr.size
                rcases List.mem_cons.1 hx with rfl | hx
                · have := n7 x (by simp)
                  omega
                · rcases List.mem_append.1 hx with hx | hx
                  · have := n7 x (List.mem_cons_of_mem _ (List.mem_append.2 (.inl hx)))
                    omega
                  · rcases List.mem_append.1 hx with hx | hx
                    · have := n7 x (List.mem_cons_of_mem _ (List.mem_append.2 (.inr hx)))
                      omega
                    · exact HD.out.lo x (List.mem_cons_of_mem _ (List.mem_append.2 (.inr (List.mem_append.2 (.inr hx)))))⟩)
              clear q7 n7 g7 HD
              go_wp2_with fail
              go_meet
              exact ⟨B, X2, A2, sb2, rfl, rfl, rfl, rfl, H7⟩
          by_cases h4 : s5 = 4
          · as_aux_lemma =>
              have hb0 : (s5 == 0) = false := by simp; omega
              have hb1 : (s5 == 1) = false := by simp; omega
              have hb2 : (s5 == 2) = false := by simp; omega
              have hb3 : (s5 == 3) = false := by simp; omega
              have hb : (s5 == 4) = true := by simpa using h4
              clear h4
              have c1 := HT.out.cell 1
              have hz0 := mx_nonneg xz
              have i6 : (mx xz).tmod 1536 = mx xz % 1536 := Int.tmod_eq_emod_of_nonneg hz0
              obtain ⟨at', ha⟩ : ∃ t : Nat, mx xz % 1536 = (t : Int) := ⟨(mx xz % 1536).toNat, by omega⟩
              have HAt := Lib.hid (show at' < 1536 by omega)
              rw [ha] at i6
              have w6' : IntKind.i64.wrap (at' : Int) = (at' : Int) := IntWalk.i64_in _ (by have := HAt.out; omega)
              go_upto_region 44 with fail
              clear c1 hz0 ha c0 hmx hd0 i5 m1 m2 w2' hb hb0 hb1 hb2 hb3 hs5
              obtain ⟨Y, ⟨l1, l2, F, V, S, hg, hf⟩, hY⟩ := HD.out.sp.st
              have HG := Lib.hid hg
              have HF := Lib.hid (And.intro l1 (And.intro l2 (And.intro hf hY)))
              have HNL := Lib.hid (pg_nums HC.out.1 (by have := HC.out.2; omega))
              clear l1 l2 hf hY
              obtain ⟨g1, hg1⟩ : ∃ g, g = at' / 512 := ⟨_, rfl⟩
              have d1 : (at' : Int).tdiv 512 = (g1 : Int) := (Int.ofNat_tdiv at' 512).symm.trans (by omega)
              have d2 : IntKind.i64.wrap (g1 : Int) = (g1 : Int) := IntWalk.i64_in _ (by have := HAt.out; omega)
              obtain ⟨r1, hr1⟩ : ∃ r, r = at' % 512 := ⟨_, rfl⟩
              have d3 : (at' : Int).tmod 512 = (r1 : Int) := (Int.ofNat_tmod at' 512).symm.trans (by omega)
              have d4 : IntKind.i64.wrap (r1 : Int) = (r1 : Int) := IntWalk.i64_in _ (by omega)
              obtain ⟨k1, hk1⟩ : ∃ k, k = r1 / 64 := ⟨_, rfl⟩
              have d5 : (r1 : Int).tdiv 64 = (k1 : Int) := (Int.ofNat_tdiv r1 64).symm.trans (by omega)
              have d6 : IntKind.i64.wrap (k1 : Int) = (k1 : Int) := IntWalk.i64_in _ (by omega)
              have hgl : g1 < pgC C := by have := HAt.out; have := HC.out.2; omega
              have hkl : k1 < 8 := by omega
              have hfr := (hg.inv.lt g1 hgl).2
              have HFr := Lib.hid (gframe_in hg g1 hgl)
              obtain ⟨f, hf⟩ : ∃ f, f = S.fr g1 := ⟨_, rfl⟩
              rw [← hf] at HFr hfr
              obtain ⟨f8, hf8⟩ : ∃ x, x = 8 * f := ⟨_, rfl⟩
              obtain ⟨l, hl⟩ : ∃ x, x = 8 * f + k1 := ⟨_, rfl⟩
              have HLl := Lib.hid (show l < cR C * cL C by have := HNL.out; omega)
              have v1 : IntKind.i64.wrap ((f : Int) * 8) = (f8 : Int) := by rw [show (f : Int) * 8 = (f8 : Int) by omega]; exact IntWalk.i64_in _ (by have := HNL.out; omega)
              have v2 : IntKind.i64.wrap ((f8 : Int) + (k1 : Int)) = (l : Int) := by rw [show (f8 : Int) + (k1 : Int) = (l : Int) by omega]; exact IntWalk.i64_in _ (by have := HNL.out; omega)
              clear hg hg1 hr1 hk1 hgl hkl hfr hf hf8 hl
              go_wp2_with fail
              refine HFr.out.mono ?_
              rintro e w7 ⟨rfl, rfl⟩
              clear HFr
              go_wp2_with fail
              refine (gflat_any HG.out).mono ?_
              rintro e w8 ⟨rfl, rfl⟩
              go_wp2_with fail
              refine (gwhere_in HG.out l HLl.out).mono ?_
              rintro e w9 ⟨rfl, g9⟩
              have H9 := Lib.hid (And.intro (HG.out.gr0 g9) (HD.out.next0 g9))
              clear g9 HG HD v1 v2
              go_wp2_with fail
              refine (H9.out.1.break l HLl.out).mono ?_
              rintro e w10 ⟨rfl, f10, g10⟩
              have H10 := Lib.hid (show Sz w C a X A sb B (n + 1) w10 from H9.out.2.moved (N := 300000 + 8400000 * n) ⟨⟨Y, ⟨HF.out.1, HF.out.2.1, F, V, S, f10, HF.out.2.2.1⟩, HF.out.2.2.2⟩, H9.out.2.sp.sz, H9.out.2.sp.hd.gr g10 fun hx => H9.out.2.sp.na (List.mem_append.2 (.inr (List.mem_append.2 (.inr hx)))), H9.out.2.sp.na, H9.out.2.sp.pg⟩ (g10.mono fun x hx => List.mem_append.2 (.inr (List.mem_append.2 (.inr hx)))) (by omega))
              clear f10 g10 H9
              go_wp2_with fail
              go_meet
              exact ⟨B, X, A, sb, rfl, rfl, rfl, rfl, H10⟩
          by_cases h2 : s5 = 2
          · have hb0 : (s5 == 0) = false := by simp; omega
            have hb1 : (s5 == 1) = false := by simp; omega
            have hb : (s5 == 2) = true := by simpa using h2
            clear h2 h3 h4
            have c1 := HT.out.cell 1
            have c3 := HT.out.cell 3
            by_cases h8 : xz.tmod 8 = 0
            · by_cases ho : errW 1536 xz 8 = 3
              · as_aux_lemma =>
                  have HX := Lib.hid (spww_err (v := (xv : Int)) xz 3 (by omega) (wordE_out HD.out.sp xz h8 (by rw [HBs.out]; exact ho)))
                  have HY := Lib.hid (spword_err xz 3 (by omega) (wordE_out HD.out.sp xz h8 (by rw [HBs.out]; exact ho)))
                  have hor : xz < 0 ∨ 1528 < xz := by
                    unfold errW at ho
                    split at ho
                    · omega
                    · omega
                  clear ho
                  go_upto_region 24 with fail
                  go_wp2_with fail
                  refine HX.out.mono ?_
                  rintro e w7 ⟨rfl, rfl⟩
                  go_wp2_with fail
                  refine HY.out.mono ?_
                  rintro e w8 ⟨rfl, rfl⟩
                  have w0 : IntKind.i64.wrap 0 = 0 := IntWalk.i64_in _ (by omega)
                  have w15 : IntKind.i64.wrap 1528 = 1528 := IntWalk.i64_in _ (by omega)
                  clear HX HY
                  go_upto_region 29 with fail
                  by_cases hn0 : xz < 0
                  · go_wp2_with fail
                    go_meet
                    exact ⟨B, X, A, sb, rfl, rfl, rfl, rfl, Lib.hid HD.out.more⟩
                  · have hgt : 1528 < xz := by omega
                    go_wp2_with fail
                    go_meet
                    exact ⟨B, X, A, sb, rfl, rfl, rfl, rfl, Lib.hid HD.out.more⟩
              · as_aux_lemma =>
                  have hin : 0 ≤ xz ∧ xz ≤ 1528 := by
                    unfold errW at ho
                    split at ho
                    · exact absurd rfl ho
                    · omega
                  clear ho
                  obtain ⟨k8, rfl⟩ : ∃ k : Nat, xz = (k : Int) := ⟨xz.toNat, by omega⟩
                  obtain ⟨q, hq⟩ : ∃ q, q = k8 / 8 := ⟨_, rfl⟩
                  have hq8 : k8 = 8 * q := by have h9 := h8; rw [Int.tmod_eq_emod_of_nonneg (by omega)] at h9; omega
                  have hl8 : k8 ≤ 1528 := by omega
                  clear hin hq
                  have HQ := Lib.hid (And.intro hq8 hl8)
                  have HX := Lib.hid (spww_any HD.out.sp q xv (by rw [HBs.out]; omega) HXI.out.2.2.2 (by have := HN25.out; omega))
                  rw [← hq8] at HX
                  have w0 : IntKind.i64.wrap 0 = 0 := IntWalk.i64_in _ (by omega)
                  have w15 : IntKind.i64.wrap 1528 = 1528 := IntWalk.i64_in _ (by omega)
                  have l15 : (k8 : Int) ≤ 1528 := by omega
                  have l0 : (0 : Int) ≤ (k8 : Int) := by omega
                  obtain ⟨k9, hk9⟩ : ∃ k, k = k8 + 8 := ⟨_, rfl⟩
                  have u1 : IntKind.i64.wrap ((k8 : Int) + 8) = (k9 : Int) := by rw [show (k8 : Int) + 8 = (k9 : Int) by omega]; exact IntWalk.i64_in _ (by omega)
                  have HK9 := Lib.hid hk9
                  clear hq8 hl8 hk9
                  go_upto_region 24 with fail
                  go_wp2_with fail
                  refine HX.out.mono ?_
                  rintro e w7 ⟨x, rfl, hx, g7⟩
                  have H7 := Lib.hid (show ∃ B2, ((x = 0 ∧ B2 = splB B k8 (wd8 xv)) ∨ (x = 10 ∧ B2 = B)) ∧ Sz w C a X A sb B2 (n + 1) w7 from by
                    rcases hx with ⟨rfl, y⟩ | ⟨rfl, y⟩
                    · exact ⟨_, .inl ⟨rfl, rfl⟩, HD.out.moved y g7 (by omega)⟩
                    · exact ⟨_, .inr ⟨rfl, rfl⟩, HD.out.moved y g7 (by omega)⟩)
                  have HT7 := Lib.hid (HT.out.gr g7 fun h => HTb.out _ h rfl)
                  clear hx g7 HX HD HT c0 c1 c3
                  obtain ⟨B2, hB2, h7⟩ := H7.out
                  clear H7
                  have hs2 : B2.size = 1536 := by have := h7.sp.sz; have := HC.out.2; omega
                  have HWd := Lib.hid (spword_in h7.sp q (by have := HQ.out; omega))
                  rw [← HQ.out.1] at HWd
                  obtain ⟨W2, hW2⟩ : ∃ W, W = wdL (lnQ B2 (q / 8)).data.toList (q % 8) := ⟨_, rfl⟩
                  rw [← hW2] at HWd
                  have HV2 := Lib.hid (show (x = 0 → W2 = xv) ∧ (x = 10 → W2 = getL (B.extract k8 k9).data.toList) from by
                    obtain ⟨q1, q2⟩ := HQ.out
                    have q3 := HK9.out
                    have q4 := HBs.out
                    rcases hB2 with ⟨rfl, rfl⟩ | ⟨rfl, rfl⟩
                    · refine ⟨fun _ => ?_, fun e => absurd e (by decide)⟩
                      rw [hW2, q1, wdL_splB (wd8_size xv) (by omega) (by omega) (by omega), if_pos rfl, wd8_get xv HXI.out.2.2.2]
                    · refine ⟨fun e => absurd e (by decide), fun _ => ?_⟩
                      rw [hW2, word_list (by omega) (by omega), q3, q1])
                  have H7 := Lib.hid h7
                  have HB2 := Lib.hid (And.intro hB2 hs2)
                  have c1 := HT7.out.cell 1
                  clear hW2 hB2 h7 hs2
                  go_wp2_with fail
                  refine HWd.out.mono ?_
                  rintro e w8 ⟨rfl, g8⟩
                  have H8 := Lib.hid (H7.out.next0 g8)
                  have HT8 := Lib.hid (HT7.out.gr0 g8)
                  clear g8 HWd H7 HT7 c1
                  have c1 := HT8.out.cell 1
                  have c3 := HT8.out.cell 3
                  rcases HB2.out.1 with ⟨rfl, rfl⟩ | ⟨rfl, rfl⟩
                  · obtain rfl := HV2.out.1 rfl
                    clear HV2
                    go_upto_region 33 with fail
                    obtain ⟨V8, hV8⟩ : ∃ V, V = wd8 W2 := ⟨_, rfl⟩
                    have hvs : V8.size = 8 := by rw [hV8]; exact wd8_size _
                    have hv := HXI.out.2.2.2
                    have HP := Lib.hid (fun W => show Calls Tryz.prog 15 #[.int .u64 (W2 : Int), .int .i64 8] W (fun e w' => e = .returned (.string V8) ∧ Below W.heap.size W w') from by rw [hV8]; exact put_any W2 8 W hv)
                    have l9 : (k9 : Int) ≤ 1536 := by have := HK9.out; have := HQ.out; omega
                    have l9' : k9 ≤ 1536 := by have := HK9.out; have := HQ.out; omega
                    have l90 : (0 : Int) ≤ (k9 : Int) := by omega
                    have l81 : (k8 : Int) ≤ 1536 := by omega
                    have l82 : k8 ≤ 1536 := by omega
                    have HUe := Lib.hid (show B.extract 0 k8 ++ V8 ++ B.extract k9 1536 = splB B k8 V8 from by unfold splB; rw [hvs, hBs, HK9.out])
                    have s1 : (B.extract 0 k8).size = k8 := (ext_size (by omega) (by omega)).trans (by omega)
                    have s2 : (B.extract k9 1536).size = 1536 - k9 := ext_size (by omega) (by omega)
                    have v1 : ¬ 9223372036854775807 < (B.extract 0 k8).size + V8.size := by rw [s1, hvs]; omega
                    have v2 : ¬ 9223372036854775807 < (B.extract 0 k8 ++ V8).size + (B.extract k9 1536).size := by rw [ByteArray.size_append, s1, s2, hvs]; omega
                    rw [← hV8] at H8
                    have K1 := kp_cell c1
                    have K3 := kp_cell c3
                    have hne := kp_ne w8
                    clear hV8 hv c1 c3 hvs
                    refine wp_region_kp (by kernel_rfl) (by kernel_rfl) ?_
                    repeat (go_big_quiet_step ((rename_i x; with_reducible exact kp_call x (HP.out x.w))))
                    with_reducible refine wpQuiet_nil ?_
                    rintro _ ⟨y, rfl⟩
                    have gy := Gr.ofBelow (cs := []) y.h
                    have H9 := Lib.hid (H8.out.next0 gy)
                    have c3 := (HT8.out.gr0 gy).cell 3
                    clear K1 K3 hne gy H8 HT8 s1 s2 u1 HP v1 v2
                    generalize y.w = w9 at *
                    clear y
                    rw [HUe.out]
                    go_wp2_with fail
                    go_meet
                    exact ⟨_, X, A, sb, rfl, rfl, rfl, rfl, H9⟩
                  · have hg2 := HV2.out.2 rfl
                    have l9 : (k9 : Int) ≤ 1536 := by have := HK9.out; have := HQ.out; omega
                    have l9' : k9 ≤ 1536 := by have := HK9.out; have := HQ.out; omega
                    have l90 : (0 : Int) ≤ (k9 : Int) := by omega
                    have l98 : (k8 : Int) ≤ (k9 : Int) := by have := HK9.out; omega
                    have l98' : k8 ≤ k9 := by have := HK9.out; omega
                    have HGe := Lib.hid (fun W => get_any (B2.extract k8 k9) W (by rw [ByteArray.size_extract]; unfold maxLen; omega))
                    have hlen : (B2.extract k8 k9).data.toList.length = 8 := by
                      show (B2.extract k8 k9).size = 8
                      rw [ByteArray.size_extract]; have := HK9.out; omega
                    rw [List.take_of_length_le (Nat.le_of_eq hlen), ← hg2] at HGe
                    clear HV2 hg2 hlen
                    go_upto_region 36 with fail
                    go_wp2_with fail
                    refine (HGe.out _).mono ?_
                    rintro e w9 ⟨rfl, rfl⟩
                    go_wp2_with fail
                    go_meet
                    exact ⟨_, X, A, sb, rfl, rfl, rfl, rfl, H8⟩
            · as_aux_lemma =>
                have HX := Lib.hid (spww_err (v := (xv : Int)) xz 2 (by omega) (wordE_arg HD.out.sp xz h8 HXI.out.2.1))
                have HY := Lib.hid (spword_err xz 2 (by omega) (wordE_arg HD.out.sp xz h8 HXI.out.2.1))
                obtain ⟨r8, hr8⟩ : ∃ r, r = xz.tmod 8 := ⟨_, rfl⟩
                have t1 : xz.tmod 8 = r8 := hr8.symm
                rw [t1] at h8
                have t3 : -8 < r8 ∧ r8 < 8 := by
                  rw [hr8]
                  have h1 := Int.tmod_lt_of_pos xz (show (0 : Int) < 8 by omega)
                  have h2 := Int.lt_tmod_of_pos xz (show (0 : Int) < 8 by omega)
                  omega
                have t2 : IntKind.i64.wrap r8 = r8 := IntWalk.i64_in _ (by omega)
                clear hr8 t3
                go_upto_region 24 with fail
                go_wp2_with fail
                refine HX.out.mono ?_
                rintro e w7 ⟨rfl, rfl⟩
                go_wp2_with fail
                refine HY.out.mono ?_
                rintro e w8 ⟨rfl, rfl⟩
                clear HX HY
                go_wp2_with fail
                go_meet
                exact ⟨B, X, A, sb, rfl, rfl, rfl, rfl, Lib.hid HD.out.more⟩
          have c1 := HT.out.cell 1
          rcases (show s5 = 0 ∨ s5 = 1 by omega) with h0 | h1
          · have hb : (s5 == 0) = true := by simpa using h0
            clear h0
            by_cases ho : errW 1536 xz (m : Int) = 3
            · as_aux_lemma =>
                have HX := Lib.hid (spwrite_out HD.out.sp xz T (by rw [HBs.out, hTs]; exact ho))
                have hor : xz < 0 ∨ 1536 - (m : Int) < xz := by
                  have := HM.out
                  unfold errW at ho
                  split at ho
                  · omega
                  · omega
                clear ho
                go_upto_region 13 with fail
                go_wp2_with fail
                refine HX.out.mono ?_
                rintro e w7 ⟨rfl, rfl⟩
                clear HX
                obtain ⟨M6, hM6⟩ : ∃ k : Nat, k = 1536 - m := ⟨_, rfl⟩
                have w16 : IntKind.i64.wrap (1536 - (m : Int)) = (M6 : Int) := by rw [show 1536 - (m : Int) = (M6 : Int) by have := HM.out; omega]; exact IntWalk.i64_in _ (by omega)
                by_cases hn0 : xz < 0
                · go_wp2_with fail
                  go_meet
                  exact ⟨B, X, A, sb, rfl, rfl, rfl, rfl, Lib.hid HD.out.more⟩
                · have hgt : (M6 : Int) < xz := by have := HM.out; omega
                  go_wp2_with fail
                  go_meet
                  exact ⟨B, X, A, sb, rfl, rfl, rfl, rfl, Lib.hid HD.out.more⟩
            · as_aux_lemma =>
                have hin : 0 ≤ xz ∧ xz + (m : Int) ≤ 1536 := by
                  unfold errW at ho
                  split at ho
                  · exact absurd rfl ho
                  · omega
                clear ho
                obtain ⟨K, rfl⟩ : ∃ k : Nat, xz = (k : Int) := ⟨xz.toNat, by omega⟩
                have hKm : K + m ≤ 1536 := by omega
                clear hin
                have HX := Lib.hid (spwriteT_in HD.out.sp K T (by rw [HBs.out, hTs]; exact hKm) (by rw [hTs]; have := HN25.out; have := HM.out; omega))
                rw [hTs] at HX
                obtain ⟨M6, hM6⟩ : ∃ k : Nat, k = 1536 - m := ⟨_, rfl⟩
                have w16 : IntKind.i64.wrap (1536 - (m : Int)) = (M6 : Int) := by rw [show 1536 - (m : Int) = (M6 : Int) by have := HM.out; omega]; exact IntWalk.i64_in _ (by omega)
                have l16 : (K : Int) ≤ (M6 : Int) := by have := HM.out; omega
                have l0 : (0 : Int) ≤ (K : Int) := by omega
                clear hM6
                go_upto_region 13 with fail
                go_wp2_with fail
                refine HX.out.mono ?_
                rintro e w7 ⟨x, rfl, hx, g7⟩
                have H7 := Lib.hid (show ∃ j, j ≤ m ∧ ((x = 0 ∧ j = m) ∨ x = 10) ∧ Sz w C a X A sb (splB B K (T.extract 0 j)) (n + 1) w7 from by
                  have hm := HM.out
                  rcases hx with ⟨rfl, y⟩ | ⟨rfl, _, j, hj, y⟩ | ⟨_, e, _⟩
                  · refine ⟨m, Nat.le_refl _, .inl ⟨rfl, rfl⟩, HD.out.moved (N := 300000 + 8400000 * n + 42000 * m) ?_ g7 (by omega)⟩
                    rw [show T.extract 0 m = T from by rw [← hTs]; exact ext_all]
                    exact y
                  · exact ⟨j, by omega, .inr rfl, HD.out.moved y g7 (by omega)⟩
                  · exact absurd e (by decide))
                have HT7 := Lib.hid (HT.out.gr g7 fun h => HTb.out _ h rfl)
                clear hx g7 HX HD HT c0 c1
                obtain ⟨j, hj, hxj, h7⟩ := H7.out
                clear H7
                obtain ⟨E1, hE1⟩ : ∃ E1, E1 = K + m := ⟨_, rfl⟩
                have u1 : IntKind.i64.wrap ((K : Int) + (m : Int)) = (E1 : Int) := by rw [show (K : Int) + (m : Int) = (E1 : Int) by omega]; exact IntWalk.i64_in _ (by omega)
                have l1 : (E1 : Int) ≤ 1536 := by omega
                have l2 : E1 ≤ 1536 := by omega
                have l3 : (0 : Int) ≤ (E1 : Int) := by omega
                have l4 : (K : Int) ≤ 1536 := by omega
                have l5 : K ≤ 1536 := by omega
                have s1 : (B.extract 0 K).size = K := (ext_size (by omega) (by omega)).trans (by omega)
                have s2 : (B.extract E1 1536).size = 1536 - E1 := ext_size (by omega) (by omega)
                have H7 := Lib.hid h7
                have HE1 := Lib.hid (And.intro hE1 (And.intro hj hKm))
                have c1 := HT7.out.cell 1
                clear h7 hE1 hj hKm
                rcases hxj with ⟨rfl, rfl⟩ | rfl
                · have HUe := Lib.hid (show B.extract 0 K ++ T ++ B.extract E1 1536 = splB B K T from by unfold splB; rw [hTs, hBs, HE1.out.1])
                  have v1 : ¬ 9223372036854775807 < (B.extract 0 K).size + T.size := by rw [s1, hTs]; have := HM.out; omega
                  have v2 : ¬ 9223372036854775807 < (B.extract 0 K ++ T).size + (B.extract E1 1536).size := by rw [ByteArray.size_append, s1, s2, hTs]; have := HM.out; omega
                  rw [show T.extract 0 j = T from by rw [← hTs]; exact ext_all] at H7
                  go_upto_region 18 with fail
                  have K1 := kp_cell c1
                  have hne := kp_ne w7
                  clear c1
                  refine wp_region_kp (by kernel_rfl) (by kernel_rfl) ?_
                  repeat (go_big_quiet_step (fail))
                  with_reducible refine wpQuiet_nil ?_
                  rintro _ ⟨y, rfl⟩
                  have gy := Gr.ofBelow (cs := []) y.h
                  have H8 := Lib.hid (H7.out.next0 gy)
                  clear K1 hne gy H7 HT7 s1 s2 v1 v2
                  generalize y.w = w8 at *
                  clear y
                  rw [HUe.out]
                  go_wp2_with fail
                  go_meet
                  exact ⟨_, X, A, sb, rfl, rfl, rfl, rfl, H8⟩
                · obtain ⟨U, hU⟩ : ∃ U, U = splB B K (T.extract 0 j) := ⟨_, rfl⟩
                  have hus : U.size = 1536 := by rw [hU, splB_size (by rw [ext_size (by rw [hTs]; exact HE1.out.2.1) (Nat.zero_le _)]; have := HE1.out; omega), hBs]
                  have hUe := read_back (B := B) (b := T) (K := K) (j := j) (by rw [hTs, hBs]; exact HE1.out.2.2) (by rw [hTs]; exact HE1.out.2.1)
                  rw [hTs, hBs, ← hU, ← HE1.out.1] at hUe
                  rw [← hU] at H7
                  have HRd := Lib.hid (spread_in H7.out.sp K m (by rw [hus]; exact HE1.out.2.2))
                  rw [← HE1.out.1] at HRd
                  obtain ⟨R, hR⟩ : ∃ R, R = U.extract K E1 := ⟨_, rfl⟩
                  have hRs : R.size = m := by rw [hR, ByteArray.size_extract]; have := HE1.out; omega
                  rw [← hR] at HRd hUe
                  have HUe := Lib.hid hUe
                  have v1 : ¬ 9223372036854775807 < (B.extract 0 K).size + R.size := by rw [s1, hRs]; have := HM.out; omega
                  have v2 : ¬ 9223372036854775807 < (B.extract 0 K ++ R).size + (B.extract E1 1536).size := by rw [ByteArray.size_append, s1, s2, hRs]; have := HM.out; omega
                  clear hU hus hUe hR hRs
                  go_upto_region 21 with fail
                  go_wp2_with fail
                  refine HRd.out.mono ?_
                  rintro e w8 ⟨rfl, g8⟩
                  have H8 := Lib.hid (H7.out.next0 g8)
                  have c1 := (HT7.out.gr0 g8).cell 1
                  clear g8 H7 HRd HT7
                  go_upto_region 22 with fail
                  have K1 := kp_cell c1
                  have hne := kp_ne w8
                  clear c1
                  refine wp_region_kp (by kernel_rfl) (by kernel_rfl) ?_
                  repeat (go_big_quiet_step (fail))
                  with_reducible refine wpQuiet_nil ?_
                  rintro _ ⟨y, rfl⟩
                  have gy := Gr.ofBelow (cs := []) y.h
                  have H9 := Lib.hid (H8.out.next0 gy)
                  clear K1 hne gy H8 s1 s2 v1 v2
                  generalize y.w = w9 at *
                  clear y
                  rw [HUe.out]
                  go_wp2_with fail
                  go_meet
                  exact ⟨_, X, A, sb, rfl, rfl, rfl, rfl, H9⟩
          · have hb0 : (s5 == 0) = false := by simp; omega
            have hb : (s5 == 1) = true := by simpa using h1
            clear h1
            by_cases ho : errW 1536 xz (m : Int) = 3
            · as_aux_lemma =>
                have HX := Lib.hid (spwrite_out HD.out.sp xz T (by rw [HBs.out, hTs]; exact ho))
                have hor : xz < 0 ∨ 1536 - (m : Int) < xz := by
                  have := HM.out
                  unfold errW at ho
                  split at ho
                  · omega
                  · omega
                clear ho
                go_upto_region 13 with fail
                go_wp2_with fail
                refine HX.out.mono ?_
                rintro e w7 ⟨rfl, rfl⟩
                clear HX
                obtain ⟨M6, hM6⟩ : ∃ k : Nat, k = 1536 - m := ⟨_, rfl⟩
                have w16 : IntKind.i64.wrap (1536 - (m : Int)) = (M6 : Int) := by rw [show 1536 - (m : Int) = (M6 : Int) by have := HM.out; omega]; exact IntWalk.i64_in _ (by omega)
                by_cases hn0 : xz < 0
                · go_wp2_with fail
                  go_meet
                  exact ⟨B, X, A, sb, rfl, rfl, rfl, rfl, Lib.hid HD.out.more⟩
                · have hgt : (M6 : Int) < xz := by have := HM.out; omega
                  go_wp2_with fail
                  go_meet
                  exact ⟨B, X, A, sb, rfl, rfl, rfl, rfl, Lib.hid HD.out.more⟩
            · as_aux_lemma =>
                have hin : 0 ≤ xz ∧ xz + (m : Int) ≤ 1536 := by
                  unfold errW at ho
                  split at ho
                  · exact absurd rfl ho
                  · omega
                clear ho
                obtain ⟨K, rfl⟩ : ∃ k : Nat, xz = (k : Int) := ⟨xz.toNat, by omega⟩
                have hKm : K + m ≤ 1536 := by omega
                clear hin
                have HX := Lib.hid (spwriteT_in HD.out.sp K T (by rw [HBs.out, hTs]; exact hKm) (by rw [hTs]; have := HN25.out; have := HM.out; omega))
                rw [hTs] at HX
                obtain ⟨M6, hM6⟩ : ∃ k : Nat, k = 1536 - m := ⟨_, rfl⟩
                have w16 : IntKind.i64.wrap (1536 - (m : Int)) = (M6 : Int) := by rw [show 1536 - (m : Int) = (M6 : Int) by have := HM.out; omega]; exact IntWalk.i64_in _ (by omega)
                have l16 : (K : Int) ≤ (M6 : Int) := by have := HM.out; omega
                have l0 : (0 : Int) ≤ (K : Int) := by omega
                clear hM6
                go_upto_region 13 with fail
                go_wp2_with fail
                refine HX.out.mono ?_
                rintro e w7 ⟨x, rfl, hx, g7⟩
                have H7 := Lib.hid (show ∃ j, j ≤ m ∧ ((x = 0 ∧ j = m) ∨ x = 10) ∧ Sz w C a X A sb (splB B K (T.extract 0 j)) (n + 1) w7 from by
                  have hm := HM.out
                  rcases hx with ⟨rfl, y⟩ | ⟨rfl, _, j, hj, y⟩ | ⟨_, e, _⟩
                  · refine ⟨m, Nat.le_refl _, .inl ⟨rfl, rfl⟩, HD.out.moved (N := 300000 + 8400000 * n + 42000 * m) ?_ g7 (by omega)⟩
                    rw [show T.extract 0 m = T from by rw [← hTs]; exact ext_all]
                    exact y
                  · exact ⟨j, by omega, .inr rfl, HD.out.moved y g7 (by omega)⟩
                  · exact absurd e (by decide))
                have HT7 := Lib.hid (HT.out.gr g7 fun h => HTb.out _ h rfl)
                clear hx g7 HX HD HT c0 c1
                obtain ⟨j, hj, hxj, h7⟩ := H7.out
                clear H7
                obtain ⟨E1, hE1⟩ : ∃ E1, E1 = K + m := ⟨_, rfl⟩
                have u1 : IntKind.i64.wrap ((K : Int) + (m : Int)) = (E1 : Int) := by rw [show (K : Int) + (m : Int) = (E1 : Int) by omega]; exact IntWalk.i64_in _ (by omega)
                have l1 : (E1 : Int) ≤ 1536 := by omega
                have l2 : E1 ≤ 1536 := by omega
                have l3 : (0 : Int) ≤ (E1 : Int) := by omega
                have l4 : (K : Int) ≤ 1536 := by omega
                have l5 : K ≤ 1536 := by omega
                have s1 : (B.extract 0 K).size = K := (ext_size (by omega) (by omega)).trans (by omega)
                have s2 : (B.extract E1 1536).size = 1536 - E1 := ext_size (by omega) (by omega)
                have H7 := Lib.hid h7
                have HE1 := Lib.hid (And.intro hE1 (And.intro hj hKm))
                have c1 := HT7.out.cell 1
                clear h7 hE1 hj hKm
                rcases hxj with ⟨rfl, rfl⟩ | rfl
                · have HUe := Lib.hid (show B.extract 0 K ++ T ++ B.extract E1 1536 = splB B K T from by unfold splB; rw [hTs, hBs, HE1.out.1])
                  have v1 : ¬ 9223372036854775807 < (B.extract 0 K).size + T.size := by rw [s1, hTs]; have := HM.out; omega
                  have v2 : ¬ 9223372036854775807 < (B.extract 0 K ++ T).size + (B.extract E1 1536).size := by rw [ByteArray.size_append, s1, s2, hTs]; have := HM.out; omega
                  rw [show T.extract 0 j = T from by rw [← hTs]; exact ext_all] at H7
                  go_upto_region 18 with fail
                  have K1 := kp_cell c1
                  have hne := kp_ne w7
                  clear c1
                  refine wp_region_kp (by kernel_rfl) (by kernel_rfl) ?_
                  repeat (go_big_quiet_step (fail))
                  with_reducible refine wpQuiet_nil ?_
                  rintro _ ⟨y, rfl⟩
                  have gy := Gr.ofBelow (cs := []) y.h
                  have H8 := Lib.hid (H7.out.next0 gy)
                  clear K1 hne gy H7 HT7 s1 s2 v1 v2
                  generalize y.w = w8 at *
                  clear y
                  rw [HUe.out]
                  go_wp2_with fail
                  go_meet
                  exact ⟨_, X, A, sb, rfl, rfl, rfl, rfl, H8⟩
                · obtain ⟨U, hU⟩ : ∃ U, U = splB B K (T.extract 0 j) := ⟨_, rfl⟩
                  have hus : U.size = 1536 := by rw [hU, splB_size (by rw [ext_size (by rw [hTs]; exact HE1.out.2.1) (Nat.zero_le _)]; have := HE1.out; omega), hBs]
                  have hUe := read_back (B := B) (b := T) (K := K) (j := j) (by rw [hTs, hBs]; exact HE1.out.2.2) (by rw [hTs]; exact HE1.out.2.1)
                  rw [hTs, hBs, ← hU, ← HE1.out.1] at hUe
                  rw [← hU] at H7
                  have HRd := Lib.hid (spread_in H7.out.sp K m (by rw [hus]; exact HE1.out.2.2))
                  rw [← HE1.out.1] at HRd
                  obtain ⟨R, hR⟩ : ∃ R, R = U.extract K E1 := ⟨_, rfl⟩
                  have hRs : R.size = m := by rw [hR, ByteArray.size_extract]; have := HE1.out; omega
                  rw [← hR] at HRd hUe
                  have HUe := Lib.hid hUe
                  have v1 : ¬ 9223372036854775807 < (B.extract 0 K).size + R.size := by rw [s1, hRs]; have := HM.out; omega
                  have v2 : ¬ 9223372036854775807 < (B.extract 0 K ++ R).size + (B.extract E1 1536).size := by rw [ByteArray.size_append, s1, s2, hRs]; have := HM.out; omega
                  clear hU hus hUe hR hRs
                  go_upto_region 21 with fail
                  go_wp2_with fail
                  refine HRd.out.mono ?_
                  rintro e w8 ⟨rfl, g8⟩
                  have H8 := Lib.hid (H7.out.next0 g8)
                  have c1 := (HT7.out.gr0 g8).cell 1
                  clear g8 H7 HRd HT7
                  go_upto_region 22 with fail
                  have K1 := kp_cell c1
                  have hne := kp_ne w8
                  clear c1
                  refine wp_region_kp (by kernel_rfl) (by kernel_rfl) ?_
                  repeat (go_big_quiet_step (fail))
                  with_reducible refine wpQuiet_nil ?_
                  rintro _ ⟨y, rfl⟩
                  have gy := Gr.ofBelow (cs := []) y.h
                  have H9 := Lib.hid (H8.out.next0 gy)
                  clear K1 hne gy H8 s1 s2 v1 v2
                  generalize y.w = w9 at *
                  clear y
                  rw [HUe.out]
                  go_wp2_with fail
                  go_meet
                  exact ⟨_, X, A, sb, rfl, rfl, rfl, rfl, H9⟩
        case rest =>
          obtain ⟨B2, X2, A2, sb2, rfl, rfl, rfl, rfl, HE⟩ := hcut
          clear HD HT HXI HBs hBs hd0 hmx c0 i5 m1 m2 w2' hs5
          have hs2 : B2.size = 1536 := by have := HE.out.sp.sz; have := HC.out.2; omega
          have HR := Lib.hid (HE.out.sp.all)
          rw [hs2] at HR
          go_wp2_with fail
          refine HR.out.mono ?_
          rintro e w9 ⟨rfl, g9⟩
          have H9 := Lib.hid (HE.out.next0 g9)
          clear g9 HE HR
          have wn : IntKind.i64.wrap ((n : Int) + 1) = (n : Int) + 1 := IntWalk.i64_in _ (by have := HN25.out; omega)
          go_wp2_with fail
          go_roundw
          case rel => exact ⟨n + 1, B2, X2, A2, sb2, HNM.out, by go_num, rfl, rfl, rfl, rfl, H9⟩
          case measure => have := HNM.out; simp [intOf]; omega
      · obtain rfl : n = M := by omega
        have HGG := Lib.hid HA.out.gr
        clear HA HCl hnM hn
        go_wp2_with fail
        go_ret
        exact ⟨rfl, HGG.out⟩
end Go.Proofs.YtifekejcbhllpaaGreat
