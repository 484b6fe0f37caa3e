/-
  Layer 17 (dir): DirKeeps' walk.
-/
import Derived.Test.YtefiapmgdjlnnaaDoorDnAa
import Derived.Test.YtefiapmgdjlnnaaDoorDnAb
import Derived.Test.YtefiapmgdjlnnaaDoorDnAc
import Derived.Test.YtefiapmgdjlnnaaDoorDnAd
import Derived.Test.YtefiapmgdjlnnaaDoorDnAe
import Derived.Test.YtefiapmgdjlnnaaDoorDnAf
import Derived.Test.YtefiapmgdjlnnaaDoorDnAg
import Derived.Test.YtefiapmgdjlnnaaDoorDnAh
import Derived.Test.YtefiapmgdjlnnaaDoorDnAi
import Derived.Test.YtefiapmgdjlnnaaDoorDkAb
import Derived.Lib.AppendIntMem
import Derived.Deep.DeepCutAuto

namespace Go.Proofs.YtefiapmgdjlnnaaDoor
open Go.RowKit Go.Shelf
set_option linter.unusedVariables false

theorem itoa_nat (i : Nat) (hi : i < 1000000) (w : World) (htab : Lib.TabIs Tryd.prog w "internal/strconv.uint64pow10" .u64 Lib.pow10Tab) : Calls Tryd.prog 25 #[.int .i64 (i : Int)] w fun e w' => e = .returned (.string ⟨(Lib.decDigits i).toArray⟩) ∧ Gr [] w w' := by
  have h := Any.strconv_Itoa DiF.ito (i : Int) (by omega) (by omega) w htab
  rw [DiF.fIto, Lib.itoa_nonneg] at h
  refine h.mono ?_
  rintro e w' ⟨rfl, k, os, rfl⟩
  refine ⟨rfl, rfl, rfl, rfl, ?_, fun x hx _ => ?_⟩
  · show w.heap.size ≤ (w.heap ++ os).size
    rw [Array.size_append]; exact Nat.le_add_right _ _
  · show (w.heap ++ os)[x]? = w.heap[x]?
    rw [Array.getElem?_append_left hx]
theorem growB_le {nb : Nat} {F : ByteArray → Option Nat} {N : List ByteArray} {s : ByteArray} (h1 : nb ≤ 128) (h2 : N.length ≤ 200) : growB nb F N s ≤ 128 := by
  unfold growB
  split
  · exact h1
  · split
    · omega
    · exact h1
theorem putN_len (F : ByteArray → Option Nat) (N : List ByteArray) (s : ByteArray) : (putN F N s).length = if (F s).isSome then N.length else N.length + 1 := by
  unfold putN
  split <;> simp
/-- A directory at work, and a map that knows the same. -/
structure Kn (w wr : World) (A : DiA) (kb : Nat) (F : ByteArray → Option Nat) (N : List ByteArray) (i : Nat) : Prop where
  is : DiIs wr A F N
  mp : MapT niE 9 wr kb N.length F
  gr : Gr [] w wr
  lo : ∀ x ∈ A.all, w.heap.size ≤ x
  lk : w.heap.size ≤ kb
  ne : ∀ x ∈ A.all, x ≠ kb
  nl : N.length ≤ i
  nb : A.nb ≤ 128
section
variable {w wr w2 w3 : World} {A A' : DiA} {kb i : Nat} {F : ByteArray → Option Nat} {N : List ByteArray} {s : ByteArray}
theorem Kn.gr0 (h : Kn w wr A kb F N i) (g : Gr [] wr w2) : Kn w w2 A kb F N i := ⟨h.is.gr0 g, h.mp.gr0 g, h.gr.next0 g, h.lo, h.lk, h.ne, h.nl, h.nb⟩
theorem Kn.put (h : Kn w wr A kb F N i) (hi : i ≤ 200) (v : Nat) (h1 : A'.nb = growB A.nb F N s) (h2 : DiIs w2 A' (updT F s (some v)) (putN F N s)) (h3 : ∀ x ∈ A'.all, x ∈ A.all ∨ wr.heap.size ≤ x) (h4 : Gr A.all wr w2)
    (hm : MapT niE 9 w3 kb (if (F s).isSome then N.length else N.length + 1) (updT F s (some v))) (g : Gr [kb] w2 w3) : Kn w w3 A' kb (updT F s (some v)) (putN F N s) (i + 1) := by
  have hs := h.gr.size
  have hk := h.mp.lt
  have hne : ∀ x ∈ A'.all, x ≠ kb := fun x hx => by
    rcases h3 x hx with q | q
    · exact h.ne x q
    · omega
  refine ⟨h2.gr g fun x hx e => hne x hx (List.mem_singleton.1 e), ?_, (h.gr.nextN h4 fun x hx => .inr (h.lo x hx)).nextN g fun x hx => .inr (by rw [List.mem_singleton] at hx; rw [hx]; exact h.lk), fun x hx => ?_, h.lk, hne, ?_, ?_⟩
  · rw [putN_len]; exact hm
  · rcases h3 x hx with q | q
    · exact h.lo x q
    · omega
  · rw [putN_len]; have := h.nl; split <;> omega
  · rw [h1]; exact growB_le h.nb (by have := h.nl; omega)
theorem Kn.mid (h : Kn w wr A kb F N i) (h4 : Gr A.all wr w2) : MapT niE 9 w2 kb N.length F := h.mp.gr h4 fun e => h.ne _ e rfl
theorem Kn.drop (h : Kn w wr A kb F N i) (hs : (F s).isSome = true) (h2 : DiIs w2 A (updT F s none) (dropN N s)) (h4 : Gr A.all wr w2) (hm : MapT niE 9 w3 kb (if (F s).isSome then N.length - 1 else N.length) (updT F s none)) (g : Gr [kb] w2 w3) : Kn w w3 A kb (updT F s none) (dropN N s) i := by
  have hl : (dropN N s).length + 1 = N.length := by
    have := (h.is.ok.cons_drop s hs).length_eq
    simp only [List.length_cons] at this
    omega
  rw [if_pos hs] at hm
  refine ⟨h2.gr g fun x hx e => h.ne x hx (List.mem_singleton.1 e), ?_, (h.gr.nextN h4 fun x hx => .inr (h.lo x hx)).nextN g fun x hx => .inr (by rw [List.mem_singleton] at hx; rw [hx]; exact h.lk), h.lo, h.lk, h.ne, by have := h.nl; omega, h.nb⟩
  rw [show (dropN N s).length = N.length - 1 by omega]
  exact hm
end
set_option maxHeartbeats 40000000 in
set_option maxRecDepth 100000 in
theorem dirkeeps_law {w : World} (v0 v1 : Value) (xs : List Int) (kl : Nat) (kp : Nat → Bool) (htab : Lib.TabIs Tryd.prog w "internal/strconv.uint64pow10" .u64 Lib.pow10Tab) (h0 : SlI .u16 w v0 xs) (hw : ∀ x ∈ xs, (Lit.int .u16 x).wf = true) (h1 : SlB w v1 kl kp) :
    Calls Tryd.prog 5 #[v0, v1] w fun e w' => e = .returned (.bool true) ∧ Gr [] w w' := by
  have undStr := Tryd.underlying9
  have undMap : Tryd.prog.underlying 59 = some (.map 9 3) := Tryd.underlying59
  have hmm := @run_makeMap Tryd.prog
  have HTB := Lib.hid (Lib.tabBelow_of_tabIs htab)
  have HV := Lib.hid h0
  have HW := Lib.hid hw
  obtain ⟨ao1, kc, rfl, hb1, hb2, hb3, hb4, hb5, hb6⟩ := h1
  have HB := Lib.hid (And.intro hb1 hb2)
  have HBL := Lib.hid hb3
  clear htab h0 hw hb1 hb2 hb3 hb4 hb5 hb6
  have HNw := Lib.hid (dnew_any w)
  go_enter Tryd.func5, Tryd.ntmps5
  go_wp2_with fail
  refine HNw.out.mono ?_
  rintro e w1 ⟨A, rfl, n1, d1, l1, g1⟩
  have H1 := Lib.hid (show Kn w (w1.alloc (.map #[] 0)) A w1.heap.size (fun _ => none) [] 0 from
    ⟨d1.gr0 ((Gr.refl [] w1).alloc _), MapT.made w1, g1.alloc _, l1, g1.size, fun x hx => by have := d1.lt x hx; omega, by simp, by rw [n1]; omega⟩)
  clear HNw n1 d1 l1 g1
  obtain ⟨db, hdb⟩ : ∃ db, A.db = db := ⟨_, rfl⟩
  rw [hdb]
  have HDB := Lib.hid hdb
  clear hdb
  go_upto_region 3 with fail
  generalize (w1.alloc (.map #[] 0)) = w2 at *
  obtain ⟨kb, hkb⟩ : ∃ x, w1.heap.size = x := ⟨_, rfl⟩
  rw [hkb] at H1 ⊢
  clear hkb
  go_cut [23, 24, 25] (fun sv nv iv wz => wz = w2 ∧ iv = .int .i64 0 ∧ ∃ (M cap : Nat) (ao : Option Addr), sv = .slice ao M cap ∧ nv = .int .i64 (M : Int) ∧ M ≤ 120 ∧ ∀ k, k < M → ∃ (vb off x : Nat), ao = some ⟨vb, off, none⟩ ∧ vb < w.heap.size ∧ x < 65536 ∧ w.cell? ⟨vb, off + k, none⟩ = some (.int .u16 (x : Int)))
  case first =>
    rcases HV.out with ⟨ao, cap, rfl, rfl, hn, hm⟩ | ⟨vb, off, cap, rfl, hp1, hp2, hp3, hp4, hp5⟩
    · have hmn := minIs17 Tryd.prog 0 0 120 120 rfl rfl
      have HNN := Lib.hid hn
      unfold maxLen at hm
      clear hn HV HW
      cases ao
      case none =>
        obtain rfl := HNN.out rfl
        go_wp2_with fail
        go_meet
        exact ⟨rfl, rfl, 0, 0, none, rfl, rfl, by omega, fun k hk => by omega⟩
      case some ad =>
        go_wp2_with fail
        go_meet
        exact ⟨rfl, rfl, 0, _, _, rfl, rfl, by omega, fun k hk => by omega⟩
    · obtain ⟨M, hM⟩ : ∃ M, M = min xs.length 120 := ⟨_, rfl⟩
      have hmn := minIs17 Tryd.prog xs.length M 120 120 rfl hM
      have hM1 : M ≤ xs.length := by omega
      have HM12 := Lib.hid (show M ≤ 120 by omega)
      have HCl := Lib.hid hp5
      have HVB := Lib.hid hp4
      unfold maxLen at hp3
      have HML1 := Lib.hid hM1
      have HFn := Lib.hid (show ∀ k, k < M → ∃ (vb' off' x : Nat), (some ⟨vb, off, none⟩ : Option Addr) = some ⟨vb', off', none⟩ ∧ vb' < w.heap.size ∧ x < 65536 ∧ w.cell? ⟨vb', off' + k, none⟩ = some (.int .u16 (x : Int)) from fun k hk => by
        have hkl : k < xs.length := by have := HML1.out; omega
        obtain ⟨x, hx1, hx2⟩ := natU16 (HW.out xs[k] (List.getElem_mem hkl))
        exact ⟨vb, off, x, rfl, HVB.out, hx2, by rw [← hx1]; exact HCl.out k _ (List.getElem?_eq_getElem hkl)⟩)
      clear hM hp4 hp5 HV HCl HVB HW
      go_wp2_with fail
      go_meet
      exact ⟨rfl, rfl, M, _, _, rfl, rfl, HM12.out, HFn.out⟩
  case rest =>
    obtain ⟨hwc, rfl, M, cap, ao, rfl, rfl, hM, hcl⟩ := hcut
    rw [← hwc] at H1
    have HCl := Lib.hid hcl
    have HM := Lib.hid hM
    clear hcl HV HW hM hwc
    go_upto_region 4 with fail
    go_loopw [25] (fun z wr => ∃ (i : Nat) (A : DiA) (F : ByteArray → Option Nat) (N : List ByteArray), i ≤ M ∧ z = .int .i64 (i : Int) ∧ A.db = db ∧ Kn w wr A kb F N i) (fun z _ => M - (intOf z).toNat)
    case atStart => exact ⟨0, A, _, _, by omega, rfl, HDB.out, H1.out⟩
    case round =>
      clear H1 HDB A
      obtain ⟨i, A, F, N, hi, rfl, rfl, Q⟩ := hrel
      have HQ := Lib.hid Q
      clear Q
      by_cases hlt : i < M
      · as_aux_lemma =>
          obtain ⟨vb, off, x, rfl, hvb, hx, cx⟩ := HCl.out i hlt
          have cx := (HQ.out.gr.cell0 hvb).trans cx
          obtain ⟨r, hr⟩ : ∃ r, r = x % 200 := ⟨_, rfl⟩
          have HR := Lib.hid (show r < 200 by omega)
          have t1 : (x : Int).tmod 200 = (r : Int) := by rw [hr]; exact (Int.ofNat_tmod x 200).symm
          have u1 : IntKind.u16.wrap (r : Int) = (r : Int) := IntWalk.u16_in _ (by omega)
          have u2 : IntKind.i64.wrap (r : Int) = (r : Int) := IntWalk.i64_in _ (by omega)
          have ik : (i : Int) < (M : Int) := by omega
          have ik0 : (0 : Int) ≤ (i : Int) := by omega
          have HIM := Lib.hid (show i + 1 ≤ M ∧ i < 120 by have := HM.out; omega)
          have HIt := Lib.hid (itoa_nat r (by omega) wr (HTB.out _ HQ.out.gr.below0))
          obtain ⟨T, hT⟩ : ∃ T : ByteArray, T = ⟨(Lib.decDigits r).toArray⟩ := ⟨_, rfl⟩
          have hTs : T.size ≤ 100 := by
            have := dec_len 4 r (by omega)
            rw [hT]
            show (Lib.decDigits r).toArray.size ≤ 100
            rw [List.size_toArray]; omega
          obtain ⟨nm, hnm⟩ : ∃ s, s = nmI 102 r := ⟨_, rfl⟩
          have hs := fun (W : World) => (run_string_add_sum (P := Tryd.prog) (w := W) ⟨#[102]⟩ T (by rw [show (⟨#[102]⟩ : ByteArray).size = 1 from rfl]; omega)).trans (show _ = Result.ok (.string nm) W from by rw [hnm, hT]; rfl)
          rw [← hT] at HIt
          have HNm := Lib.hid (show nameP nm.data.toList = true from by rw [hnm]; exact nmI_name (by decide) (by decide) (by omega))
          have HNs := Lib.hid (show nm.size ≤ maxLen from by rw [hnm]; have := nmI_size (p := 102) (i := r) (by omega); unfold maxLen; omega)
          clear hT hTs hnm hr hvb hx hlt hi
          go_wp2_with fail
          refine HIt.out.mono ?_
          rintro e w3 ⟨rfl, g3⟩
          have H3 := Lib.hid (HQ.out.gr0 g3)
          clear g3 HIt HQ cx t1 u1 u2
          have HPt := Lib.hid (dput_ok H3.out.is nm i HNm.out (by have := HIM.out; omega) (by have := H3.out.nb; omega))
          go_wp2_with fail
          refine HPt.out.mono ?_
          rintro e w4 ⟨rfl, A4, e4, n4, d4, l4, g4⟩
          have HE := Lib.hid e4
          have HMd := Lib.hid (H3.out.mid g4)
          have H4 := Lib.hid (And.intro n4 (And.intro d4 (And.intro l4 g4)))
          have hnl : N.length < maxLen := by have := H3.out.nl; have := HIM.out; unfold maxLen; omega
          clear n4 d4 l4 g4 HPt hs e4
          go_upto_region 10 with (at_mapUpdate; refine wp_putT rfl _ _ _ rfl rfl HMd.out hnl undStr undMap nm rfl HNs.out i rfl ?_; intro w5 M5 G5 hs5)
          have H5 := Lib.hid (H3.out.put (by have := HIM.out; omega) i H4.out.1 H4.out.2.1 H4.out.2.2.1 H4.out.2.2.2 M5 G5)
          clear M5 G5 hs5 HMd H4 H3 hnl
          have hio := HIM.out
          by_cases hg : i < kl ∧ kp i = true
          · obtain ⟨hg1, hg2⟩ := hg
            obtain ⟨gb, go, rfl, hgb, cg⟩ := HB.out.1 i hg1
            have cg := (H5.out.gr.cell0 hgb).trans cg
            rw [hg2] at cg
            have ig : (i : Int) < (kl : Int) := by omega
            have HS5 := Lib.hid (show (updT F nm (some i) nm).isSome = true from by unfold updT; simp)
            have HD1 := Lib.hid (ddrop_ok H5.out.is nm HNs.out HS5.out)
            rw [HE.out] at HD1
            clear hg2 hgb hg1
            go_wp2_with fail
            refine HD1.out.mono ?_
            rintro e w6 ⟨rfl, d6, g6⟩
            have H6 := Lib.hid (And.intro d6 g6)
            have HMd := Lib.hid (H5.out.mid g6)
            have HD2 := Lib.hid (ddrop_no d6 nm HNs.out (by unfold updT; simp))
            rw [HE.out] at HD2
            clear d6 g6 HD1 cg
            go_wp2_with fail
            refine HD2.out.mono ?_
            rintro e w7 ⟨rfl, g7⟩
            have H7 := Lib.hid (show DiIs w7 A4 (updT (updT F nm (some i)) nm none) (dropN (putN F N nm) nm) ∧ Gr A4.all w5 w7 from ⟨H6.out.1.gr0 g7, H6.out.2.next0 g7⟩)
            have HM7 := Lib.hid (HMd.out.gr0 g7)
            clear g7 HD2 H6 HMd
            go_upto_region 14 with (at_delete; refine wp_delT rfl _ _ rfl rfl HM7.out undStr undMap nm rfl HNs.out ?_; intro w8 M8 G8 hs8)
            have H8 := Lib.hid (H5.out.drop HS5.out H7.out.1 H7.out.2 M8 G8)
            clear M8 G8 hs8 H7 HM7 H5
            go_wp2_with fail
            go_roundw
            case rel => exact ⟨i + 1, A4, _, _, hio.1, by go_num, HE.out, H8.out⟩
            case measure => simp [intOf]; omega
          · by_cases hg1 : i < kl
            · obtain ⟨gb, go, rfl, hgb, cg⟩ := HB.out.1 i hg1
              have cg := (H5.out.gr.cell0 hgb).trans cg
              have hf : kp i = false := by
                cases e : kp i with
                | false => rfl
                | true => exact absurd ⟨hg1, e⟩ hg
              rw [hf] at cg
              have ig : (i : Int) < (kl : Int) := by omega
              clear hg hgb hf
              go_wp2_with fail
              go_roundw
              case rel => exact ⟨i + 1, A4, _, _, hio.1, by go_num, HE.out, H5.out⟩
              case measure => simp [intOf]; omega
            · have ig : (kl : Int) ≤ (i : Int) := by omega
              clear hg
              go_wp2_with fail
              go_roundw
              case rel => exact ⟨i + 1, A4, _, _, hio.1, by go_num, HE.out, H5.out⟩
              case measure => simp [intOf]; omega
      · obtain rfl : i = M := by omega
        have HBk := Lib.hid (dbuckets_any HQ.out.is)
        clear HCl hlt hi
        go_wp2_with fail
        refine HBk.out.mono ?_
        rintro e w3 ⟨gb, capb, rfl, hg1, hg2, hcb, g3⟩
        have H3 := Lib.hid (HQ.out.gr0 g3)
        have HCb := Lib.hid (And.intro hg2 hcb)
        have hn1 := HQ.out.is.nb.1
        have hnb := HQ.out.nb
        have HNL := Lib.hid (And.intro HQ.out.nl HM.out)
        clear g3 HBk hg1 hg2 hcb HQ
        go_upto_region 17 with fail
        go_loopw [10, 69] (fun s z wr => wr = w3 ∧ ∃ j : Nat, j ≤ A.nb ∧ z = .int .i64 (j : Int) ∧ s = .int .i64 ((((List.range j).map fun t => cntB A.nb t N).sum : Nat) : Int)) (fun _ z _ => A.nb - (intOf z).toNat)
        case atStart => exact ⟨rfl, 0, by omega, rfl, rfl⟩
        case round =>
          obtain ⟨hwr, j, hj, rfl, rfl⟩ := hrel
          have HWr := Lib.hid hwr
          rw [← hwr] at H3 HCb
          clear hwr
          obtain ⟨sm, hsm⟩ : ∃ x, x = ((List.range j).map fun t => cntB A.nb t N).sum := ⟨_, rfl⟩
          rw [← hsm]
          have HSm := Lib.hid hsm
          clear hsm
          by_cases hlt : j < A.nb
          · as_aux_lemma =>
              have cj := HCb.out.2 j hlt
              obtain ⟨cn, hcn⟩ : ∃ x, x = cntB A.nb j N := ⟨_, rfl⟩
              rw [← hcn] at cj
              have jb : (j : Int) < (A.nb : Int) := by omega
              have jb0 : (0 : Int) ≤ (j : Int) := by omega
              have hle : cn ≤ 120 := by rw [hcn]; have := cntB_le A.nb j N; have := HNL.out; omega
              have hsl : sm ≤ 120 * j := by
                rw [HSm.out]
                have : ∀ m : Nat, ((List.range m).map fun t => cntB A.nb t N).sum ≤ 120 * m := fun m => by
                  induction m with
                  | zero => simp
                  | succ m im =>
                    rw [List.range_succ, List.map_append, List.sum_append]
                    simp only [List.map_cons, List.map_nil, List.sum_cons, List.sum_nil]
                    have := cntB_le A.nb m N
                    have := HNL.out
                    omega
                exact this j
              have u1 : IntKind.i64.wrap ((sm : Int) + (cn : Int)) = ((sm + cn : Nat) : Int) := by rw [show (sm : Int) + (cn : Int) = ((sm + cn : Nat) : Int) by omega]; exact IntWalk.i64_in _ (by omega)
              have HN3 := Lib.hid (show sm + cn = ((List.range (j + 1)).map fun t => cntB A.nb t N).sum from by
                rw [List.range_succ, List.map_append, List.sum_append]
                simp only [List.map_cons, List.map_nil, List.sum_cons, List.sum_nil]
                rw [← HSm.out, ← hcn]; omega)
              obtain ⟨s2, hs2⟩ : ∃ x, x = sm + cn := ⟨_, rfl⟩
              rw [← hs2] at u1 HN3
              clear hcn hle hsl hs2
              go_wp2_with fail
              go_roundw
              case rel => exact ⟨HWr.out, j + 1, by omega, by go_num, by rw [← HN3.out]⟩
              case measure => simp [intOf]; omega
          · obtain rfl : j = A.nb := by omega
            have hsum : sm = N.length := by rw [HSm.out]; exact sum_cntB A.nb hn1 N
            rw [hsum]
            clear hlt hj HSm hsum HCb HWr
            go_wp2_with (at_range; refine wp_rangeT rfl _ rfl rfl H3.out.mp undStr undMap ?_; intro w4 cnt R4 G4 hs4)
            have HI := Lib.hid (show ∃ r, r = wr.heap.size ∧ Kn w w4 A kb F N i ∧ RanT niE 9 w4 kb r N.length F (fun z => (F z).isSome) cnt ∧ w.heap.size ≤ r ∧ (∀ x ∈ kb :: A.all, x < r) from
              ⟨_, rfl, H3.out.gr0 G4, R4, H3.out.gr.size, fun x hx => by
                rcases List.mem_cons.1 hx with rfl | hx
                · exact H3.out.mp.lt
                · exact H3.out.is.lt x hx⟩)
            clear R4 G4 hs4 H3
            generalize wr.heap.size = r at *
            obtain ⟨r', rfl, I⟩ := HI.out
            have HI := Lib.hid I
            clear I
            go_frame
            go_loopg [] cnt (fun g wr => ∃ left, Kn w wr A kb F N i ∧ RanT niE 9 wr kb r' N.length F left g)
            case atStart => exact ⟨_, HI.out.1, HI.out.2.1⟩
            case round =>
              obtain ⟨left, K, R⟩ := hrel
              have HK := Lib.hid K
              have HRn := Lib.hid R
              clear K R
              go_wp2_with (at_next; refine wp_nextT rfl _ rfl rfl HRn.out undStr ?_ ?_)
              · intro hdone
                have HWk := Lib.hid (wakes17 wr)
                clear hdone HRn
                go_wp2_with fail
                refine HWk.out.mono ?_
                rintro e w5 ⟨rfl, g5⟩
                have H5 := Lib.hid (HK.out.gr0 g5)
                have HL5 := Lib.hid (dlen_any H5.out.is)
                have hlen := fun ty => H5.out.mp.len undMap ty
                clear g5 HWk HK
                go_wp2_with fail
                refine HL5.out.mono ?_
                rintro e w6 ⟨rfl, rfl⟩
                have HLi := Lib.hid (dlist_any H5.out.is)
                go_wp2_with fail
                refine HLi.out.mono ?_
                rintro e w7 ⟨gl, capl, L, rfl, _, _, _, _, hll, g7⟩
                rw [hll]
                have H7 := Lib.hid (H5.out.gr0 g7)
                have hlen := fun ty => H7.out.mp.len undMap ty
                clear g7 HLi HL5 H5 hll
                go_wp2_with fail
                go_ret
                exact ⟨rfl, H7.out.gr⟩
              · intro z c w5 cnt' hz hl hf R1 hlt2 G1 hs1 hen
                have he2 : (Instr.entry (.pointer (some ⟨r', 0, none⟩))).run Tryd.prog w5 = .ok (.tuple #[.string z, .int .i64 (c : Int)]) w5 := hen
                have K5 : Kn w w5 A kb F N i := by
                  have k := HK.out
                  have hr := HI.out.2.2
                  have hnr : ∀ x ∈ A.all, x ∉ [r'] := fun x hx e => by rw [List.mem_singleton] at e; have := hr.2 x (List.mem_cons_of_mem _ hx); omega
                  exact ⟨k.is.gr G1 hnr, k.mp.gr G1 (fun e => by rw [List.mem_singleton] at e; have := hr.2 kb (List.mem_cons_self ..); omega), k.gr.nextN G1 fun x hx => .inr (by rw [List.mem_singleton] at hx; omega), k.lo, k.lk, k.ne, k.nl, k.nb⟩
                have HK5 := Lib.hid K5
                have HGt := Lib.hid (dget_any K5.is z hz)
                rw [hf] at HGt
                have HR5 := Lib.hid (And.intro R1 hlt2)
                clear K5 hf hl hz R1 hlt2 G1 hs1 hen HK HRn
                go_wp2_with fail
                refine HGt.out.mono ?_
                rintro e w6 ⟨rfl, g6⟩
                have H6 := Lib.hid (And.intro (HK5.out.gr0 g6) (HR5.out.1.gr0 g6))
                clear g6 HGt HK5
                go_wp2_with fail
                go_roundg cnt'
                case measure => exact HR5.out.2
                case rel => exact ⟨_, H6.out.1, H6.out.2⟩
theorem walk_DirKeeps {w : World} (v0 : Value) (xs : List Int) (v1 : Value) (kl : Nat) (kp : Nat → Bool) (h0 : SlI .u16 w v0 xs) (hw : ∀ x ∈ xs, (Lit.int .u16 x).wf = true) (h1 : SlB w v1 kl kp) (htab : Lib.TabIs Tryd.prog w "internal/strconv.uint64pow10" .u64 Lib.pow10Tab) :
    Calls Tryd.prog 5 #[v0, v1] w fun e w' => e = .returned (.bool true) ∧ Below w.heap.size w w' :=
  (dirkeeps_law v0 v1 xs kl kp htab h0 hw h1).mono fun _ _ q => ⟨q.1, q.2.below0⟩
end Go.Proofs.YtefiapmgdjlnnaaDoor
