/-
  FlatKeeps.
-/
import Derived.Test.YtjbhallhmnahbaaGreatPhBh
import Derived.Test.YtjbhallhmnahbaaGreatPhBi
import Derived.Deep.CutBlock
import Derived.Deep.RegionHeld3

namespace Go.Proofs.YtjbhallhmnahbaaGreat
open Go.RowKit
set_option linter.unusedVariables false

theorem minIsK (P : Program) (L m k : Nat) (kI : Int) (hk : kI = k) (h : m = min L k) (ts : Array TypeId) (t : TypeId) (w : World) : (Builtin.min_ ts t #[.int .i64 (L : Int), .int .i64 kI]).run P w = .ok (.int .i64 (m : Int)) w := by
  subst hk
  rw [run_min_int2]
  have : (if ((k : Nat) : Int) < (L : Int) then ((k : Nat) : Int) else (L : Int)) = (m : Int) := by split <;> omega
  rw [this]
set_option maxRecDepth 100000 in
set_option maxHeartbeats 40000000 in
theorem fkeeps_law (x0 x1 x2 x3 : Int) (x4 : Nat) (v : Value) {w : World} (hx4 : x4 < 18446744073709551616) (hv : SlL w v) :
    Calls Tryz.prog 5 #[.agg #[.int .i64 x0, .int .i64 x1, .int .i64 x2, .int .i64 x3, .int .u64 (x4 : Int)], v] w fun e w' => e = .returned (.bool true) ∧ Gr [] w w' := by
  have HV := Lib.hid hv
  have HSx := Lib.hid (fun W => small09 x0 x1 x2 x3 x4 W)
  obtain ⟨C, hC⟩ : ∃ C, C = smallC x0 x1 x2 x3 x4 := ⟨_, rfl⟩
  have hok := smallC_ok x0 x1 x2 x3 x4 hx4
  have hpos := smallC_pos x0 x1 x2 x3 x4 hx4
  rw [← hC] at HSx hok hpos
  unfold cfgV at HSx
  have hsz := hok.1.size
  have HSz := Lib.hid (fun W => show Calls Tryz.prog 37 #[.agg #[.int .i64 C.r, .int .i64 C.l, .int .i64 C.s, .int .i64 C.psi, .int .u64 (C.key : Int)]] W (fun e w' => e = .returned (.int .i64 (sizeC C)) ∧ Gr [] W w') from csize_any C hok.1.wf.1 W)
  obtain ⟨n, hn⟩ : ∃ n : Nat, (n : Int) = sizeC C := ⟨(sizeC C).toNat, by omega⟩
  have HN := Lib.hid (show 1 ≤ n ∧ n ≤ 37 ∧ sizeC C ≤ (n : Int) by exact ⟨by omega, by omega, by omega⟩)
  rw [← hn] at HSz
  have hRL : cR C ≤ 3 ∧ cL C ≤ 5 ∧ 1 ≤ cR C ∧ 1 ≤ cL C := by
    have := hok.1.nums
    unfold cR cL
    omega
  obtain ⟨L, hL⟩ : ∃ L, L = cR C * cL C := ⟨_, rfl⟩
  have HL := Lib.hid (show 1 ≤ L ∧ L ≤ 15 by
    have a1 : cR C * cL C ≤ 3 * 5 := Nat.mul_le_mul hRL.1 hRL.2.1
    have a2 : 1 * 1 ≤ cR C * cL C := Nat.mul_le_mul hRL.2.2.1 hRL.2.2.2
    omega)
  have HOK := Lib.hid hok.1
  have HLe := Lib.hid hL
  have HMk := Lib.hid (fun W a (d : DevIs W a (newD n)) => show Calls Tryz.prog 13 #[.pointer (some ⟨a.bd, 0, none⟩), .agg #[.int .i64 C.r, .int .i64 C.l, .int .i64 C.s, .int .i64 C.psi, .int .u64 (C.key : Int)]] W _ from fl_new HOK.out HN.out.2.2 W a d)
  have HF0 := Lib.hid (fun W => full09 ⟨#[]⟩ W (by show 0 ≤ _; omega))
  obtain ⟨Y, hY⟩ : ∃ A, A = fullS ⟨#[]⟩ := ⟨_, rfl⟩
  have HY := Lib.hid (show Y.size = 64 ∧ ∀ k, k < 8 → wdL Y.data.toList k = 0 by rw [hY]; exact ⟨fullS_size _, fun k hk => nought_word hk⟩)
  rw [← hY] at HF0
  have HG0 := Lib.hid ((Gr.refl [] w).alloc (Obj.cells #[.int .i64 x0, .int .i64 x1, .int .i64 x2, .int .i64 x3, .int .u64 (x4 : Int)] 24))
  clear hY hC hok hpos hsz hn hRL hL hv hx4
  go_enter Tryz.func5, Tryz.ntmps5
  go_wp2_with fail
  generalize (w.alloc (Obj.cells #[.int .i64 x0, .int .i64 x1, .int .i64 x2, .int .i64 x3, .int .u64 (x4 : Int)] 24)) = w1 at *
  refine (HSx.out _).mono ?_
  rintro e w2 ⟨rfl, g2⟩
  have HG2 := Lib.hid (HG0.out.trans g2)
  clear g2 HG0 HSx
  have hh := Holds.new w2 #[.int .i64 C.r, .int .i64 C.l, .int .i64 C.s, .int .i64 C.psi, .int .u64 (C.key : Int)] 37
  have HGa := Lib.hid (HG2.out.trans ((Gr.refl [] w2).alloc (Obj.cells #[.int .i64 C.r, .int .i64 C.l, .int .i64 C.s, .int .i64 C.psi, .int .u64 (C.key : Int)] 37)))
  go_upto_region 2 with fail
  generalize (w2.alloc (Obj.cells #[.int .i64 C.r, .int .i64 C.l, .int .i64 C.s, .int .i64 C.psi, .int .u64 (C.key : Int)] 37)) = w3 at *
  obtain ⟨pb, hpb⟩ : ∃ pb, w2.heap.size = pb := ⟨_, rfl⟩
  rw [hpb] at hh ⊢
  clear hpb HG2
  have HH3 := Lib.hid hh
  have c0 := hh.cell 0
  have c1 := hh.cell 1
  have c2 := hh.cell 2
  have c3 := hh.cell 3
  have c4 := hh.cell 4
  clear hh
  go_wp2_with fail
  with_reducible refine (HSz.out _).mono ?_
  rintro e w4 ⟨rfl, g4⟩
  have H4 := Lib.hid (And.intro (HH3.out.gr0 g4) (HGa.out.trans g4))
  clear g4 c0 c1 c2 c3 c4 HH3 HGa HSz
  go_wp2_with fail
  refine (pmnew_yes n _ HN.out.1 (by have := HN.out.2.1; omega)).mono ?_
  rintro e w5 ⟨a, rfl, d5, hlo, g5⟩
  have HLO := Lib.hid (show ∀ x ∈ a.all, w.heap.size ≤ x ∧ x ≠ pb from fun x hx => ⟨Nat.le_trans H4.out.2.size (hlo x hx), fun q => by have := hlo x hx; have := H4.out.1.lt; omega⟩)
  have H5 := Lib.hid (And.intro d5 (And.intro (H4.out.1.gr0 g5) (H4.out.2.trans g5)))
  clear d5 g5 hlo H4
  go_upto_region 3 with fail
  go_wp2_with fail
  refine (wakes09 _).mono ?_
  rintro e w6 ⟨rfl, g6⟩
  have H6 := Lib.hid (And.intro (H5.out.1.gr0 g6) (And.intro (H5.out.2.1.gr0 g6) (H5.out.2.2.trans g6)))
  clear g6 H5
  have c0 := H6.out.2.1.cell 0
  have c1 := H6.out.2.1.cell 1
  have c2 := H6.out.2.1.cell 2
  have c3 := H6.out.2.1.cell 3
  have c4 := H6.out.2.1.cell 4
  go_wp2_with fail
  with_reducible refine (HMk.out _ a H6.out.1).mono ?_
  rintro e w7 ⟨rfl, d7, f7, g7⟩
  have H7 := Lib.hid (And.intro d7 (And.intro f7 (H6.out.2.2.nextN g7 fun x hx => .inr (HLO.out x hx).1)))
  clear d7 f7 g7 c0 c1 c2 c3 c4 H6 HMk
  go_wp2_with fail
  refine (fl_open HOK.out H7.out.2.1 (by omega) H7.out.1).mono ?_
  rintro e w8 ⟨A, rfl, f8, n8, g8⟩
  have HNA := Lib.hid (show ∀ x ∈ A.all (cR C) ++ a.all, w.heap.size ≤ x from fun x hx => by
    rcases List.mem_append.1 hx with hx | hx
    · exact Nat.le_trans H7.out.2.2.size (n8 x hx)
    · exact (HLO.out x hx).1)
  have H8 := Lib.hid (And.intro f8 (H7.out.2.2.trans g8))
  clear f8 n8 g8 H7
  generalize vOf C (fun _ => B0) (fun _ => 0) (iL C) = V0 at *
  go_wp2_with fail
  refine (H8.out.1.lines).mono ?_
  rintro e w9 ⟨rfl, g9⟩
  rw [← HLe.out]
  have H9 := Lib.hid (And.intro (H8.out.1.gr0 g9) (H8.out.2.trans g9))
  have HNB := Lib.hid (show w.heap.size ≤ w9.heap.size ∧ ∀ x ∈ A.all (cR C) ++ a.all, w.heap.size ≤ x ∧ x ≠ w9.heap.size from ⟨H9.out.2.size, fun x hx => ⟨HNA.out x hx, fun q => by have := H9.out.1.lt x hx; omega⟩⟩)
  have hmk := fun W => makeS_run L (by have := HL.out; omega) W
  have hh := Holds.new w9 (rowOf (fun _ => .string ⟨#[]⟩) L) 9
  have ga := (Gr.refl [] w9).alloc (Obj.cells (rowOf (fun _ => .string ⟨#[]⟩) L) 9)
  have HA := Lib.hid (And.intro hh (And.intro (H9.out.1.gr0 ga) (H9.out.2.trans ga)))
  clear g9 hh ga H8 H9 HNA HLO
  go_upto_region 9 with fail
  generalize w9.alloc (.cells (rowOf (fun _ => .string ⟨#[]⟩) L) 9) = wA at *
  obtain ⟨nb, hnb⟩ : ∃ nb, w9.heap.size = nb := ⟨_, rfl⟩
  rw [hnb] at HA HNB ⊢
  clear hnb hmk
  go_wp2_with fail
  go_loopw [58] (fun z wr => ∃ k : Nat, k ≤ L ∧ z = .int .i64 (k : Int) ∧ Holds wr nb (rowOf (fun l => if l < k then .string Y else .string ⟨#[]⟩) L) 9 ∧ FL C A a true (fun _ _ => 0) V0 200000 wr ∧ Gr [] w wr) (fun z _ => L - (intOf z).toNat)
  case atStart => exact ⟨0, by omega, rfl, by simpa using HA.out.1, HA.out.2.1, HA.out.2.2⟩
  case round =>
    obtain ⟨k, hk, rfl, hr1, hr2, hr3⟩ := hrel
    have HR := Lib.hid (And.intro hr1 (And.intro hr2 hr3))
    clear hr1 hr2 hr3 HA
    by_cases hkL : k < L
    · have il : (k : Int) < (L : Int) := by omega
      have hk0 : (0 : Int) ≤ (k : Int) := by omega
      have HKL := Lib.hid hkL
      have hw : IntKind.i64.wrap ((k : Int) + 1) = (k : Int) + 1 := IntWalk.i64_in _ (by have := HL.out; omega)
      clear hk hkL
      go_wp2_with fail
      refine (HF0.out _).mono ?_
      rintro e wB ⟨rfl, gB⟩
      have HRB := Lib.hid (And.intro (HR.out.1.gr0 gB) (And.intro (HR.out.2.1.gr0 gB) (HR.out.2.2.trans gB)))
      clear gB HR
      have fz := HRB.out.1.frozen k
      have hln : nb < wB.heap.size := HRB.out.1.lt
      have hcn := HRB.out.1.cell k
      rw [rowOf_get _ _ _ HKL.out] at hcn
      have gs := (Gr.refl [nb] wB).setCell (p := ⟨nb, k, none⟩) (.inl (by simp)) (.string Y)
      have hs := HRB.out.1.set k (.string Y)
      have HS := Lib.hid (show Holds (wB.setCell ⟨nb, k, none⟩ (.string Y)) nb (rowOf (fun l => if l < k + 1 then .string Y else .string ⟨#[]⟩) L) 9 ∧ FL C A a true (fun _ _ => 0) V0 200000 (wB.setCell ⟨nb, k, none⟩ (.string Y)) ∧ Gr [] w (wB.setCell ⟨nb, k, none⟩ (.string Y)) from ⟨by
        rw [rowOf_set] at hs
        rwa [rowOf_congr (g' := fun l => if l < k + 1 then Value.string Y else Value.string ⟨#[]⟩) (fun i _ => by
          by_cases q : i = k
          · rw [if_pos q, if_pos (by omega)]
          · rw [if_neg q]
            by_cases q2 : i < k
            · rw [if_pos q2, if_pos (by omega)]
            · rw [if_neg q2, if_neg (by omega)])] at hs, HRB.out.2.1.gr gs fun x hx q => (HNB.out.2 x hx).2 (List.mem_singleton.1 q), HRB.out.2.2.nextN gs fun x hx => .inr (by rw [List.mem_singleton.1 hx]; exact HNB.out.1)⟩)
      clear gs hs
      go_upto_region 13 with fail
      generalize (wB.setCell ⟨nb, k, none⟩ (.string Y)) = wC at *
      clear fz hln hcn HRB
      go_wp2_with fail
      go_roundw
      case rel => exact ⟨k + 1, HKL.out, by go_num, HS.out⟩
      case measure => have := HKL.out; simp [intOf]; omega
    · obtain rfl : k = L := by omega
      have il : ¬ ((k : Int) < (k : Int)) := by omega
      have HQ := Lib.hid (show Kq w C a nb (fun _ => Y) A V0 200000 wr from ⟨HR.out.2.2, (HR.out.2.1.any).congr (fun l m _ hm => (HY.out.2 m hm).symm), by
        have h := HR.out.1
        rw [HLe.out] at h
        rwa [rowOf_congr (g' := fun _ => Value.string Y) (fun i hi => if_pos hi)] at h, fun l _ => HY.out.1, HNB.out⟩)
      clear HR hk hkL HNB HF0
      go_upto_region 14 with fail
      clear il
      go_cut [70, 71, 72] (fun sv nv iv wz => wz = wr ∧ iv = .int .i64 0 ∧ ∃ (M cap : Nat) (ao : Option Addr), sv = .slice ao M cap ∧ nv = .int .i64 (M : Int) ∧ M ≤ 40 ∧ ∀ k, k < M → ∃ (vb off : Nat) (x : ActL), ao = some ⟨vb, off, none⟩ ∧ vb < w.heap.size ∧ ActLIs w x ∧ ActLAt w vb (off + k * 6) x)
      case first =>
        rcases HV.out with ⟨ao, cap, rfl, hn, hm⟩ | ⟨vb, off, N, cap, xs, rfl, h1, h2, h3, h4, h5⟩
        · have hmn := minIsK Tryz.prog 0 0 40 40 rfl rfl
          have HNN := Lib.hid hn
          unfold maxLen at hm
          clear hn HV
          cases ao
          case none =>
            obtain rfl := HNN.out rfl
            go_wp2_with fail
            go_meet
            exact ⟨rfl, rfl, 0, 0, none, rfl, rfl, by omega, fun k hk => by omega⟩
          case some ad =>
            go_wp2_with fail
            go_meet
            exact ⟨rfl, rfl, 0, _, _, rfl, rfl, by omega, fun k hk => by omega⟩
        · obtain ⟨M, hM⟩ : ∃ M, M = min N 40 := ⟨_, rfl⟩
          have hmn := minIsK Tryz.prog N M 40 40 rfl hM
          have hM1 : M ≤ N := by omega
          have HM12 := Lib.hid (show M ≤ 40 by omega)
          have HCl := Lib.hid h5
          have HVB := Lib.hid h4
          unfold maxLen at h3
          clear hM h4 h5 HV
          have HML1 := Lib.hid hM1
          go_wp2_with fail
          go_meet
          exact ⟨rfl, rfl, M, _, _, rfl, rfl, HM12.out, fun k hk => ⟨vb, off, xs k, rfl, HVB.out, (HCl.out k (by have := HML1.out; omega)).1, (HCl.out k (by have := HML1.out; omega)).2⟩⟩
      case rest =>
        obtain ⟨rfl, rfl, M, cap, ao, rfl, rfl, hM40, hcl⟩ := hcut
        have HCl := Lib.hid hcl
        have HM40 := Lib.hid hM40
        clear hcl HV hM40
        go_wp2_with fail
        go_loopw [8, 72] (fun fv z wr => ∃ (n : Nat) (K : Nat → ByteArray) (A : FlA) (V : FlV), n ≤ M ∧ z = .int .i64 (n : Int) ∧ fv = .pointer (some ⟨A.fb, 0, none⟩) ∧ Kq w C a nb K A V (200000 + 4200 * n) wr) (fun _ z _ => M - (intOf z).toNat)
        case atStart => exact ⟨0, _, _, _, by omega, rfl, rfl, HQ.out⟩
        case round =>
          clear HQ
          obtain ⟨n, K, A, V, hn, rfl, rfl, ha⟩ := hrel
          have HA := Lib.hid ha
          clear ha
          by_cases hnM : n < M
          · skip
            obtain ⟨vb, off, x, rfl, hvb, hxi, e0, e1, e2, e3, e4, e5⟩ := HCl.out n hnM
            have e0 := (HA.out.gr.cell0 hvb).trans e0
            have e1 := (HA.out.gr.cell0 hvb).trans e1
            have e2 := (HA.out.gr.cell0 hvb).trans e2
            have e3 := (HA.out.gr.cell0 hvb).trans e3
            have e4 := (HA.out.gr.cell0 hvb).trans e4
            have e5 := (HA.out.gr.cell0 hvb).trans e5
            obtain ⟨xd, xz, xk, xv, xs, xao, xkl, xkc, xkp⟩ := x
            dsimp only at e0 e1 e2 e3 e4 e5
            have hxsz : xs.size ≤ 9223372036854775807 := by have := hxi.2.2.2.2.1; unfold maxLen at this; dsimp only at this; omega
            have ik : (n : Int) < (M : Int) := by omega
            have HNM := Lib.hid (show n + 1 ≤ M by omega)
            have HN40 := Lib.hid (show n + 1 ≤ 40 by have := HM40.out; omega)
            have hk0 : (0 : Int) ≤ (n : Int) := by omega
            have hmx := max0 Tryz.prog
            have hd0 := mx_nonneg xd
            have hz0 := mx_nonneg xz
            clear hxi hvb
            go_upto_region 17 with fail
            have ht := Holds.new wr #[.int .i64 xd, .int .i64 xz, .int .i64 xk, .int .u64 (xv : Int), .string xs, .slice xao xkl xkc] 47
            have ga := (Gr.refl [] wr).alloc (Obj.cells #[.int .i64 xd, .int .i64 xz, .int .i64 xk, .int .u64 (xv : Int), .string xs, .slice xao xkl xkc] 47)
            have HC := Lib.hid (HA.out.next0 ga)
            have HT := Lib.hid ht
            clear ht ga e0 e1 e2 e3 e4 e5 HA
            generalize (wr.alloc (Obj.cells #[.int .i64 xd, .int .i64 xz, .int .i64 xk, .int .u64 (xv : Int), .string xs, .slice xao xkl xkc] 47)) = w4 at *
            obtain ⟨tb, htb⟩ : ∃ tb, wr.heap.size = tb := ⟨_, rfl⟩
            rw [htb] at HT ⊢
            clear htb
            have c1 := HT.out.cell 1
            have n1 : ((k : Int) == 0) = false := by have := HL.out; simp; omega
            have n2 : (k : Int) ≠ 0 := by have := HL.out; omega
            have w1 : (mx xz).tmod (k : Int) = mx xz % (k : Int) := Int.tmod_eq_emod_of_nonneg hz0
            have m1 := Int.emod_nonneg (mx xz) n2
            have m2 := Int.emod_lt_of_pos (mx xz) (show (0 : Int) < (k : Int) by have := HL.out; omega)
            have w2 : IntKind.i64.wrap (mx xz % (k : Int)) = mx xz % (k : Int) := IntWalk.i64_in _ (by have := HL.out; omega)
            go_upto_region 18 with fail
            obtain ⟨l, hl⟩ : ∃ l : Nat, (l : Int) = mx xz % (k : Int) := ⟨(mx xz % (k : Int)).toNat, by omega⟩
            have HLl := Lib.hid (show l < k by omega)
            rw [← hl]
            clear c1 n1 n2 w1 m1 m2 w2 hl hz0
            have c0 := HT.out.cell 0
            have i7 : (mx xd).tmod 7 = mx xd % 7 := Int.tmod_eq_emod_of_nonneg hd0
            have m1 := Int.emod_nonneg (mx xd) (show (7 : Int) ≠ 0 by omega)
            have m2 := Int.emod_lt_of_pos (mx xd) (show (0 : Int) < 7 by omega)
            have w2 : IntKind.i64.wrap (mx xd % 7) = mx xd % 7 := IntWalk.i64_in _ (by omega)
            obtain ⟨s7, hs7⟩ : ∃ s7, s7 = mx xd % 7 := ⟨_, rfl⟩
            rw [← hs7] at i7 m1 m2 w2
            go_upto_block 4 with fail
            go_cut [8] (fun fv wz => ∃ (K : Nat → ByteArray) (A : FlA) (V : FlV), fv = .pointer (some ⟨A.fb, 0, none⟩) ∧ Kq w C a nb K A V (200000 + 4200 * (n + 1)) wz)
            case first =>
              by_cases h4 : s7 = 4
              · as_aux_lemma =>
                  have hb : (s7 == 4) = true := by simpa using h4
                  have HB4 := Lib.hid h4
                  clear h4
                  go_upto_region 26 with fail
                  clear c0 hmx hd0 i7 m1 m2 w2 hb hs7
                  go_wp2_with fail
                  refine (HC.out.fl.where l (by rw [← HLe.out]; exact HLl.out)).mono ?_
                  rintro e w5 ⟨rfl, g5⟩
                  have H5 := Lib.hid (HC.out.next0 g5)
                  clear g5 HC
                  go_upto_region 28 with fail
                  go_wp2_with fail
                  refine (H5.out.fl.break l (by rw [← HLe.out]; exact HLl.out)).mono ?_
                  rintro e w6 ⟨rfl, f6, g6⟩
                  have H6 := Lib.hid (H5.out.next (g6.mono fun x hx => List.mem_append.2 (.inr hx)) f6)
                  clear f6 g6 H5
                  go_wp2_with fail
                  go_meet
                  exact ⟨K, A, V, rfl, H6.out.gr, H6.out.fl.more (by omega), H6.out.kn, H6.out.sz, H6.out.lo⟩
              by_cases h6 : s7 = 6
              · as_aux_lemma =>
                  have hb4 : (s7 == 4) = false := by simpa using h4
                  have hb : (s7 == 6) = true := by simpa using h6
                  clear h4 h6
                  go_upto_region 30 with fail
                  clear c0 hmx hd0 i7 m1 m2 w2 hb hb4 hs7
                  go_wp2_with fail
                  refine (HC.out.fl.again (by have := HN40.out; omega)).mono ?_
                  rintro e w5 ⟨A2, rfl, f5, n5, g5⟩
                  have H5 := Lib.hid (show Kq w C a nb K A2 V (200000 + 4200 * n) w5 from ⟨HC.out.gr.trans g5, f5, HC.out.kn.gr0 g5, HC.out.sz, HC.out.lo.1, fun x hx => by
                    have hs := HC.out.gr.size
                    have hnl := HC.out.kn.lt
                    rcases List.mem_append.1 hx with hx | hx
                    · have := n5 x hx
                      exact ⟨by omega, by omega⟩
                    · exact HC.out.lo.2 x (List.mem_append.2 (.inr hx))⟩)
                  clear f5 n5 g5 HC
                  go_wp2_with fail
                  go_meet
                  exact ⟨K, A2, V, rfl, H5.out.gr, H5.out.fl.more (by omega), H5.out.kn, H5.out.sz, H5.out.lo⟩
              as_aux_lemma =>
                have hb4 : (s7 == 4) = false := by simpa using h4
                have hb : (s7 == 6) = false := by simpa using h6
                clear h4 h6
                go_upto_region 19 with fail
                clear c0 hmx hd0 i7 m1 m2 w2 hb hb4 hs7
                obtain ⟨m8, hm8⟩ : ∃ m, m = min xs.size 64 := ⟨_, rfl⟩
                have hmn := minIsK Tryz.prog xs.size m8 64 64 rfl hm8
                have hm8a : m8 ≤ xs.size := by omega
                have HM8 := Lib.hid (show m8 ≤ 64 by omega)
                clear hm8
                have c4 := HT.out.cell 4
                have HFl := Lib.hid (fun W => full09 (xs.extract 0 m8) W (by rw [ByteArray.size_extract]; have := HM8.out; omega))
                obtain ⟨S, hS⟩ : ∃ S, S = fullS (xs.extract 0 m8) := ⟨_, rfl⟩
                rw [← hS] at HFl
                have HS64 := Lib.hid (show S.size = 64 by rw [hS]; exact fullS_size _)
                clear hS
                go_wp2_with fail
                refine (HFl.out _).mono ?_
                rintro e w5 ⟨rfl, g5⟩
                have H5 := Lib.hid (HC.out.next0 g5)
                clear g5 c4 HC HT HFl hmn hm8a hxsz
                go_upto_region 20 with fail
                go_wp2_with fail
                refine (H5.out.fl.put (by have := HN40.out; omega) l (by rw [← HLe.out]; exact HLl.out) S HS64.out).mono ?_
                rintro e w6 ⟨x, V2, rfl, hx, g6⟩
                rcases hx with ⟨rfl, f6⟩ | ⟨rfl, _, hu, f6⟩
                · skip
                  rw [← wF_put] at f6
                  have H6 := Lib.hid (And.intro (H5.out.gr.nextN g6 fun x hx => .inr (H5.out.lo.2 x hx).1) (And.intro f6 (H5.out.kn.gr g6 fun hx => (H5.out.lo.2 _ hx).2 rfl)))
                  clear f6 g6
                  go_upto_region 22 with fail
                  have fz := H6.out.2.2.frozen l
                  have hln : nb < w6.heap.size := H6.out.2.2.lt
                  have hcn := H6.out.2.2.cell l
                  rw [rowOf_get _ _ _ (by rw [← HLe.out]; exact HLl.out)] at hcn
                  have gs := (Gr.refl [nb] w6).setCell (p := ⟨nb, l, none⟩) (.inl (by simp)) (.string S)
                  have hs := H6.out.2.2.set l (.string S)
                  have il : (l : Int) < (k : Int) := by have := HLl.out; omega
                  have hl0 : (0 : Int) ≤ (l : Int) := by omega
                  have H7 := Lib.hid (show Kq w C a nb (putK K l S) A V2 (200000 + 4200 * n + 4200) (w6.setCell ⟨nb, l, none⟩ (.string S)) from ⟨H6.out.1.nextN gs fun x hx => .inr (by rw [List.mem_singleton.1 hx]; exact H5.out.lo.1), H6.out.2.1.gr gs fun x hx q => (H5.out.lo.2 x hx).2 (List.mem_singleton.1 q), by
                    rw [rowOf_set] at hs
                    rwa [rowOf_congr (g' := fun i => Value.string (putK K l S i)) (fun i _ => by unfold putK; split <;> rfl)] at hs, fun i hi => by
                    unfold putK
                    split
                    · exact HS64.out
                    · exact H5.out.sz i hi, H5.out.lo⟩)
                  clear gs hs
                  go_wp2_with fail
                  generalize (w6.setCell ⟨nb, l, none⟩ (.string S)) = w7 at *
                  clear fz hln hcn il hl0
                  go_meet
                  exact ⟨putK K l S, A, V2, rfl, H7.out.gr, H7.out.fl.more (by omega), H7.out.kn, H7.out.sz, H7.out.lo⟩
                · skip
                  have H6 := Lib.hid (H5.out.next g6 f6)
                  have HU := Lib.hid hu
                  clear f6 g6 hu H5
                  have hlL : l < cR C * cL C := by rw [← HLe.out]; exact HLl.out
                  have HRg := Lib.hid ((H6.out.fl).region l hlL)
                  clear hlL
                  go_wp2_with fail
                  refine HRg.out.mono ?_
                  rintro e w7 ⟨rfl, g7⟩
                  have H7 := Lib.hid (H6.out.next0 g7)
                  clear g7 H6 HRg
                  go_wp2_with fail
                  refine (H7.out.fl.left (qL C l) (qi_in HOK.out (by rw [← HLe.out]; exact HLl.out)).1).mono ?_
                  rintro e w8 ⟨rfl, g8⟩
                  have H8 := Lib.hid (H7.out.next0 g8)
                  rw [HU.out, Int.sub_self]
                  clear g8 H7
                  go_wp2_with fail
                  go_meet
                  exact ⟨K, A, V2, rfl, H8.out.gr, H8.out.fl.more (by omega), H8.out.kn, H8.out.sz, H8.out.lo⟩
            case rest =>
              obtain ⟨K2, A2, V2, rfl, hq⟩ := hcut
              have HQ := Lib.hid hq
              clear hq HC HT c0 hmx hd0 i7 m1 m2 w2 hs7 hxsz
              have hmm := @run_makeMap Tryz.prog
              go_upto_region 34 with fail
              clear hmm
              have hm := MapZ.made (E := boolE) (k := 3) wc
              have gm := (Gr.refl [] wc).alloc (.map #[] 0)
              have HB := Lib.hid (And.intro hm (HQ.out.next0 gm))
              have HMB := Lib.hid (show wc.heap.size ∉ A2.all (cR C) ++ a.all ∧ wc.heap.size ≠ nb ∧ w.heap.size ≤ wc.heap.size from ⟨fun q => by have := HQ.out.fl.lt _ q; omega, fun q => by have := HQ.out.kn.lt; omega, HQ.out.gr.size⟩)
              clear hm gm HQ
              generalize wc.alloc (.map #[] 0) = w9 at *
              obtain ⟨mb, hmb⟩ : ∃ mb, wc.heap.size = mb := ⟨_, rfl⟩
              rw [hmb] at HB HMB ⊢
              clear hmb
              go_wp2_with fail
              go_loopw [143] (fun z wr => ∃ i : Nat, i ≤ k ∧ z = .int .i64 (i : Int) ∧ MapZ boolE 3 wr mb i (atF V2.W i) ∧ Kq w C a nb K2 A2 V2 (200000 + 4200 * (n + 1)) wr) (fun z _ => k - (intOf z).toNat)
              case atStart => exact ⟨0, by omega, rfl, by rw [atF_zero]; exact HB.out.1, HB.out.2⟩
              case round =>
                obtain ⟨i, hi, rfl, hr1, hr2⟩ := hrel
                have HR := Lib.hid (And.intro hr1 hr2)
                clear hr1 hr2 HB
                by_cases hik : i < k
                · have il : (i : Int) < (k : Int) := by omega
                  have hi0 : (0 : Int) ≤ (i : Int) := by omega
                  have HIL := Lib.hid (show i < cR C * cL C by rw [← HLe.out]; exact hik)
                  have HIK := Lib.hid hik
                  have hw : IntKind.i64.wrap ((i : Int) + 1) = (i : Int) + 1 := IntWalk.i64_in _ (by have := HL.out; omega)
                  clear hi hik
                  have cn := HR.out.2.cell HIL.out
                  go_wp2_with fail
                  refine (HR.out.2.fl.read i HIL.out).mono ?_
                  rintro e wA ⟨rfl, gA⟩
                  rw [HR.out.2.text HIL.out]
                  have HS := Lib.hid (And.intro (HR.out.1.gr0 gA) (HR.out.2.next0 gA))
                  clear gA HR cn
                  go_wp2_with fail
                  refine (HS.out.2.fl.where i HIL.out).mono ?_
                  rintro e wB ⟨rfl, gB⟩
                  have HU := Lib.hid (And.intro (HS.out.1.gr0 gB) (HS.out.2.next0 gB))
                  have HVV := Lib.hid (show (∀ l, l < i → V2.W l ≠ V2.W i) from fun l hl q => by have := HS.out.2.fl.inj (show l < cR C * cL C by have := HIL.out; omega) HIL.out q; omega)
                  have HZ := Lib.hid (show WfZ (V2.W i : Int) from wfZ (by omega) (by
                    obtain ⟨ok, D, B, j, c, h1, h2, h3⟩ := HS.out.2.fl
                    have := (h1.pos ok HIL.out).2.2.2
                    have := h3.ok.hi
                    omega))
                  clear gB HS
                  have hlk := HU.out.1.look (t := 90) Tryz.underlying3 Tryz.underlying90 HZ.out
                  rw [atF_new HVV.out] at hlk
                  obtain ⟨zz, hzz⟩ : ∃ zz : Int, zz = (V2.W i : Int) := ⟨_, rfl⟩
                  rw [← hzz] at hlk ⊢
                  have HZZ := Lib.hid hzz
                  clear hzz
                  have hlk2 : ∀ W, W = wB → (Instr.lookup 90 (.map (some mb)) (.int .i64 zz) false).run Tryz.prog W = .ok (.bool false) W := fun W q => by subst q; exact hlk
                  clear hlk
                  have hlk3 := hlk2 wB rfl
                  clear hlk2
                  go_upto_region 41 with fail
                  clear hlk3
                  go_wp2_with (refine wp_putZ rfl _ _ _ rfl rfl HU.out.1 (by unfold maxLen; have := HIK.out; have := HL.out; omega) Tryz.underlying3 Tryz.underlying90 zz rfl (by rw [HZZ.out]; exact HZ.out) true rfl ?_)
                  intro wC hm gm hsz
                  have HX := Lib.hid (show MapZ boolE 3 wC mb (i + 1) (atF V2.W (i + 1)) ∧ Kq w C a nb K2 A2 V2 (200000 + 4200 * (n + 1)) wC from ⟨by
                    rw [HZZ.out, atF_succ] at hm
                    exact hm, HU.out.2.gr.nextN gm fun x hx => .inr (by rw [List.mem_singleton.1 hx]; exact HMB.out.2.2), HU.out.2.fl.gr gm fun x hx q => HMB.out.1 (by rw [← List.mem_singleton.1 q]; exact hx), HU.out.2.kn.gr gm fun q => HMB.out.2.1 (List.mem_singleton.1 q).symm, HU.out.2.sz, HU.out.2.lo⟩)
                  clear hm gm hsz HU
                  go_wp2_with fail
                  go_roundw
                  case rel => exact ⟨i + 1, HIK.out, by go_num, HX.out⟩
                  case measure => have := HIK.out; simp [intOf]; omega
                · obtain rfl : i = k := by omega
                  have il : ¬ ((i : Int) < (i : Int)) := by omega
                  have hw : IntKind.i64.wrap ((n : Int) + 1) = (n : Int) + 1 := IntWalk.i64_in _ (by have := HN40.out; omega)
                  go_wp2_with fail
                  go_roundw
                  case rel => exact ⟨n + 1, K2, A2, V2, HNM.out, by go_num, rfl, HR.out.2⟩
                  case measure => have := HNM.out; simp [intOf]; omega
          · obtain rfl : n = M := by omega
            have ik : ¬ ((n : Int) < (n : Int)) := by omega
            go_wp2_with fail
            go_ret
            exact ⟨rfl, HA.out.gr⟩

theorem walk_FlatKeeps (x0 x1 x2 x3 : Int) (x4 : Nat) (v : Value) {w : World} (hx : CfgB x0 x1 x2 x3 x4) (s : SlL w v) :
    Calls Tryz.prog 5 #[.agg #[.int .i64 x0, .int .i64 x1, .int .i64 x2, .int .i64 x3, .int .u64 (x4 : Int)], v] w fun e w' => e = .returned (.bool true) ∧ Below w.heap.size w w' :=
  (fkeeps_law x0 x1 x2 x3 x4 v hx.2.2.2.2 s).mono fun _ _ q => ⟨q.1, q.2.below0⟩
end Go.Proofs.YtjbhallhmnahbaaGreat
