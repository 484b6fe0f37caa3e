/-
  FlatPlays.
-/
import Derived.Test.YtjbhallhmnahbaaGreatPkBw
import Derived.Test.YtjbhallhmnahbaaGreatPkBs
import Derived.Test.YtjbhallhmnahbaaGreatPkBx
import Derived.Deep.CutBlock
import Derived.Deep.RegionHeld3

namespace Go.Proofs.YtjbhallhmnahbaaGreat
open Go.RowKit
set_option linter.unusedVariables false

theorem minIsP (P : Program) (L m k : Nat) (kI : Int) (hk : kI = k) (h : m = min L k) (ts : Array TypeId) (t : TypeId) (w : World) : (Builtin.min_ ts t #[.int .i64 (L : Int), .int .i64 kI]).run P w = .ok (.int .i64 (m : Int)) w := by
  subst hk
  rw [run_min_int2]
  have : (if ((k : Nat) : Int) < (L : Int) then ((k : Nat) : Int) else (L : Int)) = (m : Int) := by split <;> omega
  rw [this]
theorem fiveP {W : World} {b : Nat} {x0 x1 x2 x3 x4 : Value} {T : TypeId} (h : Holds W b #[x0, x1, x2, x3, x4] T) : W.cell? ⟨b, 0, none⟩ = some x0 ∧ W.cell? ⟨b, 1, none⟩ = some x1 ∧ W.cell? ⟨b, 2, none⟩ = some x2 ∧ W.cell? ⟨b, 3, none⟩ = some x3 ∧ W.cell? ⟨b, 4, none⟩ = some x4 := ⟨h.cell 0, h.cell 1, h.cell 2, h.cell 3, h.cell 4⟩
set_option maxRecDepth 100000 in
set_option maxHeartbeats 40000000 in
theorem fplays9_law (x0 x1 x2 x3 : Int) (x4 : Nat) (v : Value) {w : World} (hx4 : x4 < 18446744073709551616) (hv : SlL w v) :
    Calls Tryz.prog 3 #[.agg #[.int .i64 x0, .int .i64 x1, .int .i64 x2, .int .i64 x3, .int .u64 (x4 : Int)], v] w fun e w' => e = .returned (.bool true) ∧ Gr [] w w' := by
  have HV := Lib.hid hv
  have HSx := Lib.hid (fun W => small09 x0 x1 x2 x3 x4 W)
  obtain ⟨C, hC⟩ : ∃ C, C = smallC x0 x1 x2 x3 x4 := ⟨_, rfl⟩
  have hok := smallC_ok x0 x1 x2 x3 x4 hx4
  have hpos := smallC_pos x0 x1 x2 x3 x4 hx4
  rw [← hC] at HSx hok hpos
  unfold cfgV at HSx
  have hR3 : cR C ≤ 3 := by
    have := hok.1.nums
    unfold cR
    omega
  obtain ⟨n, hn⟩ : ∃ n : Nat, (n : Int) = sizeC C := ⟨(sizeC C).toNat, by omega⟩
  have HN := Lib.hid (show 1 ≤ n ∧ n ≤ 37 ∧ sizeC C ≤ (n : Int) by exact ⟨by omega, by omega, by omega⟩)
  have HNE := Lib.hid hn
  have HSz := Lib.hid (fun W => show Calls Tryz.prog 9 #[.agg #[.int .i64 C.r, .int .i64 C.l, .int .i64 C.s, .int .i64 C.psi, .int .u64 (C.key : Int)]] W (fun e w' => e = .returned (.int .i64 (n : Int)) ∧ Gr [] W w') from by rw [hn]; exact rsize9 C ⟨hok.1.r1, hok.1.r2, hok.1.ok⟩ W)
  have HOK := Lib.hid hok.1
  have HR3 := Lib.hid hR3
  have HMk := Lib.hid (fun W a (d : DevIs W a (newD n)) => show Calls Tryz.prog 13 #[.pointer (some ⟨a.bd, 0, none⟩), .agg #[.int .i64 C.r, .int .i64 C.l, .int .i64 C.s, .int .i64 C.psi, .int .u64 (C.key : Int)]] W _ from fl_new HOK.out HN.out.2.2 W a d)
  have HMr := Lib.hid (fun W r (d : RefIs W r (newD n)) => show Calls Tryz.prog 14 #[.pointer (some ⟨r.rd, 0, none⟩), .agg #[.int .i64 C.r, .int .i64 C.l, .int .i64 C.s, .int .i64 C.psi, .int .u64 (C.key : Int)]] W _ from rmake9 HOK.out HR3.out HN.out.2.2 (by have := HN.out.2.1; omega) d)
  have HG0 := Lib.hid ((Gr.refl [] w).alloc (Obj.cells #[.int .i64 x0, .int .i64 x1, .int .i64 x2, .int .i64 x3, .int .u64 (x4 : Int)] 24))
  clear hC hok hpos hR3 hn hv hx4
  go_enter Tryz.func3, Tryz.ntmps3
  go_wp2_with fail
  generalize (w.alloc (Obj.cells #[.int .i64 x0, .int .i64 x1, .int .i64 x2, .int .i64 x3, .int .u64 (x4 : Int)] 24)) = w1 at *
  refine (HSx.out _).mono ?_
  rintro e w2 ⟨rfl, g2⟩
  have HG2 := Lib.hid (HG0.out.trans g2)
  clear g2 HG0 HSx
  have hh := Holds.new w2 #[.int .i64 C.r, .int .i64 C.l, .int .i64 C.s, .int .i64 C.psi, .int .u64 (C.key : Int)] 26
  have HGa := Lib.hid (HG2.out.trans ((Gr.refl [] w2).alloc (Obj.cells #[.int .i64 C.r, .int .i64 C.l, .int .i64 C.s, .int .i64 C.psi, .int .u64 (C.key : Int)] 26)))
  have HLB := Lib.hid HG2.out.size
  go_upto_region 2 with fail
  generalize (w2.alloc (Obj.cells #[.int .i64 C.r, .int .i64 C.l, .int .i64 C.s, .int .i64 C.psi, .int .u64 (C.key : Int)] 26)) = w3 at *
  obtain ⟨pb, hpb⟩ : ∃ pb, w2.heap.size = pb := ⟨_, rfl⟩
  rw [hpb] at hh HLB ⊢
  clear hpb HG2
  have HH3 := Lib.hid hh
  obtain ⟨c0, c1, c2, c3, c4⟩ := fiveP hh
  clear hh
  go_wp2_with fail
  with_reducible refine (HSz.out _).mono ?_
  rintro e w4 ⟨rfl, g4⟩
  have H4 := Lib.hid (And.intro (HH3.out.gr0 g4) (HGa.out.trans g4))
  clear g4 c0 c1 c2 c3 c4 HH3 HGa HSz
  go_wp2_with fail
  refine (pmnew_yes n _ HN.out.1 (by have := HN.out.2.1; omega)).mono ?_
  rintro e w5 ⟨a, rfl, d5, hlo, g5⟩
  have HLO := Lib.hid (show ∀ x ∈ a.all, pb < x from fun x hx => by have := hlo x hx; have := H4.out.1.lt; omega)
  have H5 := Lib.hid (And.intro d5 (And.intro (H4.out.1.gr0 g5) (H4.out.2.trans g5)))
  clear d5 g5 hlo H4
  go_wp2_with fail
  refine (rnew_any n _ HN.out.1 (by have := HN.out.2.1; omega)).mono ?_
  rintro e w6 ⟨r, rfl, r6, hro, g6⟩
  have HFS := Lib.hid (show FPs w a r pb from ⟨fun x hx hr => by have := H5.out.1.lt x hx; have := hro x hr; omega, fun x hx => by
    rcases List.mem_append.1 hx with hx | hx
    · exact HLO.out x hx
    · have := hro x hx; have := H5.out.2.1.lt; omega, HLB.out⟩)
  have R6 : RefIs w6 r (newD n) := ⟨_, r6, Says.new n⟩
  have H6 := Lib.hid (And.intro (H5.out.1.gr0 g6) (And.intro R6 (And.intro (H5.out.2.1.gr0 g6) (H5.out.2.2.trans g6))))
  clear r6 hro g6 R6 H5 HLO HLB
  go_upto_region 5 with fail
  have s6 := fiveP H6.out.2.2.1
  have HME := Lib.hid (fun W (d : DevIs W a (makeZ C (newD n)).2) (q : RefIs W r (makeZ C (newD n)).2) => mediaF_any a r _ W d q)
  go_region_held3 (fun w' : World => w'.cell? ⟨pb, 0, none⟩ = some (.int .i64 C.r) ∧ w'.cell? ⟨pb, 1, none⟩ = some (.int .i64 C.l) ∧ w'.cell? ⟨pb, 2, none⟩ = some (.int .i64 C.s) ∧ w'.cell? ⟨pb, 3, none⟩ = some (.int .i64 C.psi) ∧ w'.cell? ⟨pb, 4, none⟩ = some (.int .u64 (C.key : Int))) (with_reducible (first | assumption | go_keep)) ((first
    | (go_at_call 15; (with_reducible refine Calls.mono (HME.out _ (H9.out.1.gr0 (by repeat (first | exact Gr.refl _ _ | refine Gr.drew ?_))) (H9.out.2.1.gr0 (by repeat (first | exact Gr.refl _ _ | refine Gr.drew ?_)))) ?_); rintro rr wA ⟨rfl, gA⟩; have HA := Lib.hid (show Gr [] w9 wA from (by refine Gr.next0 ?_ gA; (repeat (first | exact Gr.refl _ _ | refine Gr.drew ?_)))); have sA := fiveP (H9.out.2.2.1.gr0 HA.out); clear gA)
    | (go_at_call 14; (with_reducible refine Calls.mono (HMr.out _ r (H8.out.2.1.gr0 (by repeat (first | exact Gr.refl _ _ | refine Gr.drew ?_)))) ?_); rintro rr w9 ⟨rfl, r9, g9⟩; have g9' : Gr r.all w8 w9 := (by refine Gr.trans ?_ g9; (repeat (first | exact Gr.refl _ _ | refine Gr.drew ?_))); have H9 := Lib.hid (And.intro (H8.out.1.gr g9' HFS.out.sep) (And.intro r9 (And.intro (H8.out.2.2.1.gr g9' (fun e => by have := HFS.out.lo _ (List.mem_append.2 (.inr e)); omega)) (H8.out.2.2.2.nextN g9' (fun x hx => .inr (by have := HFS.out.lo x (List.mem_append.2 (.inr hx)); have := HFS.out.pl; omega)))))); have s9 := fiveP H9.out.2.2.1; clear g9 g9' r9)
    | (go_at_call 13; (with_reducible refine Calls.mono (HMk.out _ a (H7.out.1.gr0 (by repeat (first | exact Gr.refl _ _ | refine Gr.drew ?_)))) ?_); rintro rr w8 ⟨rfl, d8, f8, g8⟩; have HFD := Lib.hid f8; have g8' : Gr a.all w7 w8 := (by refine Gr.trans ?_ g8; (repeat (first | exact Gr.refl _ _ | refine Gr.drew ?_))); have H8 := Lib.hid (And.intro d8 (And.intro (H7.out.2.1.gr g8' (fun x hx e => HFS.out.sep x e hx)) (And.intro (H7.out.2.2.1.gr g8' (fun e => by have := HFS.out.lo _ (List.mem_append.2 (.inl e)); omega)) (H7.out.2.2.2.nextN g8' (fun x hx => .inr (by have := HFS.out.lo x (List.mem_append.2 (.inl hx)); have := HFS.out.pl; omega)))))); have s8 := fiveP H8.out.2.2.1; clear g8 g8' d8 f8)
    | (go_at_call 12; (with_reducible refine Calls.mono (wakes09 _) ?_); rintro rr w7 ⟨rfl, g7⟩; have g7' : Gr [] w6 w7 := (by refine Gr.next0 ?_ g7; (repeat (first | exact Gr.refl _ _ | refine Gr.drew ?_))); have H7 := Lib.hid (And.intro (H6.out.1.gr0 g7') (And.intro (H6.out.2.1.gr0 g7') (And.intro (H6.out.2.2.1.gr0 g7') (H6.out.2.2.2.trans g7')))); have s7 := fiveP H7.out.2.2.1; clear g7 g7')))
  as_aux_lemma =>
    obtain ⟨G0, L0, _⟩ := HFD.out.ls
    have HOn := Lib.hid (show OnF C (makeZ C (newD n)).2 (fun _ => B0) (fun _ => 0) from ⟨⟨HFD.out.calm.off, HFD.out.calm.buf⟩, HFD.out.fit, G0, by rw [calm_bare HFD.out.calm]; exact L0⟩)
    have HOpn := Lib.hid (fun W (d : DevIs W a (makeZ C (newD n)).2) => fopen_ok d HOK.out HFD.out.fit HFD.out.calm L0 (fun q _ => by omega))
    have HB := Lib.hid (show FPd w a r C pb (makeZ C (newD n)).2 200000 wA from ⟨H9.out.1.gr0 HA.out, H9.out.2.1.gr0 HA.out, HFD.out.bd, H9.out.2.2.1.gr0 HA.out, H9.out.2.2.2.trans HA.out⟩)
    clear L0 s6 s7 s8 s9 sA H6 H7 H8 H9 HA HFD HMk HMr HME
    generalize (makeZ C (newD n)).2 = D0 at *
    go_wp2_with fail
    refine (HOpn.out _ HB.out.dev).mono ?_
    rintro e wB ⟨A0, rfl, fB, nB, gB⟩
    have HC1 := Lib.hid (And.intro (HB.out.gr0 gB) fB)
    have HNA := Lib.hid (show ∀ x ∈ A0.all (cR C), x ∉ r.all ∧ pb < x from fun x hx => ⟨fun q => by have := nB x hx; have := HB.out.ref.lt x q; omega, by have := nB x hx; have := HB.out.cfg.lt; omega⟩)
    clear fB nB gB HB HOpn
    obtain ⟨c0, c1, c2, c3, c4⟩ := fiveP HC1.out.1.cfg
    have HRo := Lib.hid (fun W => show Calls Tryz.prog 17 #[.agg #[.int .i64 C.r, .int .i64 C.l, .int .i64 C.s, .int .i64 C.psi, .int .u64 (C.key : Int)]] W _ from ropen9 HOK.out W)
    go_wp2_with fail
    refine (HRo.out _).mono ?_
    rintro e wC ⟨R0, rfl, fC, nC, gC⟩
    have HC2 := Lib.hid (show FPd w a r C pb D0 200000 wC ∧ FPq a r C pb A0 R0 (fun _ => B0) (fun _ => 0) (fun _ => 0) 64 wC from ⟨HC1.out.1.gr0 gC, HC1.out.2.gr gC (by simp), fC, fun x hx => ⟨fun q => by have := nC x q; have := HC1.out.2.lt x hx; omega, HNA.out x hx⟩, fun x hx => ⟨fun q => by have := nC x hx; have := HC1.out.1.dev.lt x q; omega, fun q => by have := nC x hx; have := HC1.out.1.ref.lt x q; omega, by have := nC x hx; have := HC1.out.1.cfg.lt; omega⟩⟩)
    clear fC nC gC HC1 HNA HRo c0 c1 c2 c3 c4
    go_upto_region 11 with fail
    go_cut [80, 81, 82] (fun sv nv iv wz => wz = wC ∧ iv = .int .i64 0 ∧ ∃ (M cap : Nat) (ao : Option Addr), sv = .slice ao M cap ∧ nv = .int .i64 (M : Int) ∧ M ≤ 25 ∧ ∀ k, k < M → ∃ (vb off : Nat) (x : ActL), ao = some ⟨vb, off, none⟩ ∧ vb < w.heap.size ∧ ActLIs w x ∧ ActLAt w vb (off + k * 6) x)
    case first =>
      rcases HV.out with ⟨ao, cap, rfl, hn, hm⟩ | ⟨vb, off, N, cap, xs, rfl, h1, h2, h3, h4, h5⟩
      · have hmn := minIsP Tryz.prog 0 0 25 25 rfl rfl
        have HNN := Lib.hid hn
        unfold maxLen at hm
        clear hn HV
        cases ao
        case none =>
          obtain rfl := HNN.out rfl
          go_wp2_with fail
          go_meet
          exact ⟨rfl, rfl, 0, 0, none, rfl, rfl, by omega, fun k hk => by omega⟩
        case some ad =>
          go_wp2_with fail
          go_meet
          exact ⟨rfl, rfl, 0, _, _, rfl, rfl, by omega, fun k hk => by omega⟩
      · obtain ⟨M, hM⟩ : ∃ M, M = min N 25 := ⟨_, rfl⟩
        have hmn := minIsP Tryz.prog N M 25 25 rfl hM
        have hM1 : M ≤ N := by omega
        have HM12 := Lib.hid (show M ≤ 25 by omega)
        have HCl := Lib.hid h5
        have HVB := Lib.hid h4
        unfold maxLen at h3
        clear hM h4 h5 HV
        have HML1 := Lib.hid hM1
        go_wp2_with fail
        go_meet
        exact ⟨rfl, rfl, M, _, _, rfl, rfl, HM12.out, fun k hk => ⟨vb, off, xs k, rfl, HVB.out, (HCl.out k (by have := HML1.out; omega)).1, (HCl.out k (by have := HML1.out; omega)).2⟩⟩
    case rest =>
      as_aux_lemma =>
        obtain ⟨rfl, rfl, M, cap, ao, rfl, rfl, hM25, hcl⟩ := hcut
        have HCl := Lib.hid hcl
        have HM25 := Lib.hid hM25
        clear hcl HV hM25
        go_wp2_with fail
        go_loopw [10, 12, 82] (fun fv qv iv wr => ∃ (k : Nat) (D : DevS) (B : Nat → BkS) (j c : Nat → Nat) (A : FlA) (Rf : RfA), k ≤ M ∧ iv = .int .i64 (k : Int) ∧ fv = .pointer (some ⟨A.fb, 0, none⟩) ∧ qv = .pointer (some ⟨Rf.fb, 0, none⟩) ∧ FPd w a r C pb D (200000 + 4300 * k) wr ∧ FPq a r C pb A Rf B j c (64 + 192 * k) wr ∧ OnF C D B j ∧ (∀ q, q < cR C → j q ≤ 2 * k) ∧ ∀ q, q < cR C → c q ≤ 65536) (fun _ _ iv _ => M - (intOf iv).toNat)
        case atStart => exact ⟨0, _, _, _, _, _, _, by omega, rfl, rfl, rfl, HC2.out.1, HC2.out.2, HOn.out, fun _ _ => by omega, fun _ _ => by omega⟩
        case round =>
          clear HC2 HOn
          obtain ⟨k, D, B, j, c, A, Rf, hk, rfl, rfl, rfl, h1, h2, h3, h4, h5⟩ := hrel
          have HS := Lib.hid (And.intro h1 h2)
          have HO := Lib.hid (And.intro h3 (And.intro h4 h5))
          clear h1 h2 h3 h4 h5
          by_cases hkM : k < M
          · as_aux_lemma =>
              obtain ⟨vb, off, x, rfl, hvb, hxi, e0, e1, e2, e3, e4, e5⟩ := HCl.out k hkM
              have e0 := (HS.out.1.gr.cell0 hvb).trans e0
              have e1 := (HS.out.1.gr.cell0 hvb).trans e1
              have e2 := (HS.out.1.gr.cell0 hvb).trans e2
              have e3 := (HS.out.1.gr.cell0 hvb).trans e3
              have e4 := (HS.out.1.gr.cell0 hvb).trans e4
              have e5 := (HS.out.1.gr.cell0 hvb).trans e5
              have HXI := Lib.hid hxi
              obtain ⟨xd, xz, xk, xv, xs, xao, xkl, xkc, xkp⟩ := x
              dsimp only at e0 e1 e2 e3 e4 e5
              have hxsz : xs.size ≤ 9223372036854775807 := by have := hxi.2.2.2.2.1; unfold maxLen at this; dsimp only at this; omega
              have ik : (k : Int) < (M : Int) := by omega
              have HKM := Lib.hid (show k + 1 ≤ M by omega)
              have HK25 := Lib.hid (show k + 1 ≤ 25 by have := HM25.out; omega)
              have hk0 : (0 : Int) ≤ (k : Int) := by omega
              obtain ⟨m8, hm8⟩ : ∃ m, m = min xs.size 80 := ⟨_, rfl⟩
              have hmn := minIsP Tryz.prog xs.size m8 80 80 rfl hm8
              have hm8a : m8 ≤ xs.size := by omega
              have HM8 := Lib.hid (show m8 ≤ 80 by omega)
              have hmx := max0 Tryz.prog
              have hd0 := mx_nonneg xd
              clear hxi hvb hm8
              go_upto_region 14 with fail
              have ht := Holds.new wr #[.int .i64 xd, .int .i64 xz, .int .i64 xk, .int .u64 (xv : Int), .string xs, .slice xao xkl xkc] 47
              have ga := (Gr.refl [] wr).alloc (Obj.cells #[.int .i64 xd, .int .i64 xz, .int .i64 xk, .int .u64 (xv : Int), .string xs, .slice xao xkl xkc] 47)
              have HT := Lib.hid (And.intro ht (And.intro (HS.out.1.gr0 ga) (HS.out.2.gr0 ga)))
              have HTN := Lib.hid (show wr.heap.size ∉ A.all (cR C) ++ a.all ∧ wr.heap.size ∉ Rf.all (cR C) ++ r.all from ⟨fun e => by
                rcases List.mem_append.1 e with e | e
                · have := HS.out.2.fl.lt _ e; omega
                · have := HS.out.1.dev.lt _ e; omega, fun e => by
                rcases List.mem_append.1 e with e | e
                · have := HS.out.2.rf.lt _ e; omega
                · have := HS.out.1.ref.lt _ e; omega⟩)
              clear ht ga e0 e1 e2 e3 e4 e5 HS
              generalize (wr.alloc (Obj.cells #[.int .i64 xd, .int .i64 xz, .int .i64 xk, .int .u64 (xv : Int), .string xs, .slice xao xkl xkc] 47)) = w4 at *
              obtain ⟨tb, htb⟩ : ∃ tb, wr.heap.size = tb := ⟨_, rfl⟩
              rw [htb] at HT HTN ⊢
              clear htb
              have t0 := HT.out.1.cell 0
              have t4 := HT.out.1.cell 4
              have i7 : (mx xd).tmod 7 = mx xd % 7 := Int.tmod_eq_emod_of_nonneg hd0
              have m1 := Int.emod_nonneg (mx xd) (show (7 : Int) ≠ 0 by omega)
              have m2 := Int.emod_lt_of_pos (mx xd) (show (0 : Int) < 7 by omega)
              have w2 : IntKind.i64.wrap (mx xd % 7) = mx xd % 7 := IntWalk.i64_in _ (by omega)
              obtain ⟨s7, hs7⟩ : ∃ s7, s7 = mx xd % 7 := ⟨_, rfl⟩
              rw [← hs7] at i7 m1 m2 w2
              obtain ⟨St, hSt⟩ : ∃ St, xs.extract 0 m8 = St := ⟨_, rfl⟩
              have HSt := Lib.hid (show St.size ≤ 80 by rw [← hSt, ByteArray.size_extract]; have := HM8.out; omega)
              go_upto_block 2 with fail
              try rw [hSt]
              clear hSt hmn hm8a hxsz t4
              go_cut [16] (fun sv wz => sv = .bool true ∧ ∃ (D' : DevS) (B' : Nat → BkS) (j' c' : Nat → Nat), FPd w a r C pb D' (200000 + 4300 * k + 4250) wz ∧ FPq a r C pb A Rf B' j' c' (64 + 192 * k + 192) wz ∧ (OnF C D' B' j' ∨ OffF C j D') ∧ (∀ q, q < cR C → j' q ≤ 2 * k + 1) ∧ (∀ q, q < cR C → c' q ≤ 65536) ∧ Holds wz tb #[.int .i64 xd, .int .i64 xz, .int .i64 xk, .int .u64 (xv : Int), .string xs, .slice xao xkl xkc] 47)
              case first =>
                by_cases hs0 : s7 = 0
                · as_aux_lemma =>
                    have hb0 : (s7 == 0) = true := by simpa using hs0
                    clear hs0
                    go_upto_region 18 with fail
                    clear hb0 t0 i7 m1 m2 w2 hs7 hmx hd0
                    have HFl := Lib.hid (fun W => full09 St W (by have := HSt.out; omega))
                    obtain ⟨x, D', B', j', c', HBo⟩ := fp_line (A := A) (Rf := Rf) (a := a) (r := r) HOK.out HO.out.1 HT.out.2.1.mbb HT.out.2.1.fu (by have := HK25.out; omega) (m := 64 + 192 * k) (by have := HK25.out; omega) (fun q hq => by have := HO.out.2.1 q hq; have := HK25.out; omega) HO.out.2.2 (fun y hy => (HT.out.2.2.s2 y hy).2.1) xz (fullS St) (by rw [fullS_size]; unfold maxLen; omega)
                    have HBo := Lib.hid HBo
                    have s4 : w4.cell? ⟨tb, 1, none⟩ = some (.int .i64 xz) := HT.out.1.cell 1
                    go_region_held3 (fun w' : World => w'.cell? ⟨tb, 1, none⟩ = some (.int .i64 xz)) (with_reducible (first | assumption | go_keep)) ((first
                      | (go_at_call 20; (with_reducible refine Calls.mono (HBo.out.ref _ (H7.out.1.gr0 (by repeat (first | exact Gr.refl _ _ | refine Gr.drew ?_))) (H7.out.2.1.gr0 (by repeat (first | exact Gr.refl _ _ | refine Gr.drew ?_)))) ?_); rintro rr w8 ⟨rfl, r6, q6, g6⟩; have g6' : Gr (Rf.all (cR C) ++ r.all) w7 w8 := (by refine Gr.trans ?_ g6; (repeat (first | exact Gr.refl _ _ | refine Gr.drew ?_))); have H8 := Lib.hid (And.intro (FPd.after HFS.out H5.out.2.1 H5.out.2.2 H7.out.2.2.1 H7.out.2.2.2.1 H7.out.2.2.2.2.1 g6' r6 q6 H7.out.2.2.2.2.2.1) (H7.out.2.2.2.2.2.2.gr g6' HTN.out.2)); have s8 : w8.cell? ⟨tb, 1, none⟩ = some (.int .i64 xz) := H8.out.2.cell 1; clear r6 q6 g6 g6')
                      | (go_at_call 19; (with_reducible have hq6 := H6.out.1.ok); (with_reducible refine Calls.mono (HFl.out _) ?_); rintro rr w7 ⟨rfl, g7⟩; have g7' : Gr [] w6 w7 := (by refine Gr.next0 ?_ g7; (repeat (first | exact Gr.refl _ _ | refine Gr.drew ?_))); have H7 := Lib.hid (And.intro (H6.out.1.gr0 g7') (And.intro (H6.out.2.1.gr0 g7') (And.intro (H6.out.2.2.1.next0 g7') (And.intro (H6.out.2.2.2.1.gr0 g7') (And.intro (H6.out.2.2.2.2.1.gr g7' (by simp)) (And.intro H6.out.2.2.2.2.2.1 (H6.out.2.2.2.2.2.2.gr0 g7'))))))); have s7' : w7.cell? ⟨tb, 1, none⟩ = some (.int .i64 xz) := H7.out.2.2.2.2.2.2.cell 1; clear g7 g7' hq6)
                      | (go_at_call 18; (with_reducible refine Calls.mono (HBo.out.prog _ (H5.out.2.2.gr0 (by repeat (first | exact Gr.refl _ _ | refine Gr.drew ?_))).fl (H5.out.2.1.dev.gr0 (by repeat (first | exact Gr.refl _ _ | refine Gr.drew ?_)))) ?_); rintro rr w6 ⟨rfl, d5, b5, f5, g5⟩; have g5' : Gr (A.all (cR C) ++ a.all) w5 w6 := (by refine Gr.trans ?_ g5; (repeat (first | exact Gr.refl _ _ | refine Gr.drew ?_))); have hmd := FPd.mid HFS.out H5.out.2.1 H5.out.2.2 g5'; have H6 := Lib.hid (And.intro hmd.1 (And.intro hmd.2.1 (And.intro g5' (And.intro d5 (And.intro f5 (And.intro b5 (H5.out.1.gr g5' HTN.out.1))))))); have s6 : w6.cell? ⟨tb, 1, none⟩ = some (.int .i64 xz) := H6.out.2.2.2.2.2.2.cell 1; clear d5 b5 f5 g5 g5' hmd)
                      | (go_at_call 19; (with_reducible refine Calls.mono (HFl.out _) ?_); rintro rr w5 ⟨rfl, g5⟩; have g5' : Gr [] w4 w5 := (by refine Gr.next0 ?_ g5; (repeat (first | exact Gr.refl _ _ | refine Gr.drew ?_))); have H5 := Lib.hid (And.intro (HT.out.1.gr0 g5') (And.intro (HT.out.2.1.gr0 g5') (HT.out.2.2.gr0 g5'))); have s5 : w5.cell? ⟨tb, 1, none⟩ = some (.int .i64 xz) := H5.out.1.cell 1; clear g5 g5')))
                    go_wp2_with fail
                    go_meet
                    refine ⟨by simp, D', B', j', c', H8.out.1.1.more (by omega), H8.out.1.2, ?_, fun q hq => ?_, HBo.out.cu, H8.out.2⟩
                    · by_cases hx6 : x = 6
                      · exact .inr (HBo.out.off hx6)
                      · exact .inl (HBo.out.on hx6)
                    · have := HBo.out.ju q hq
                      have := HO.out.2.1 q hq
                      omega
                by_cases hs1 : s7 = 1
                · as_aux_lemma =>
                    have hb0 : (s7 == 0) = false := by simp; omega
                    have hb1 : (s7 == 1) = true := by simpa using hs1
                    clear hs0 hs1
                    go_upto_region 20 with fail
                    clear hb0 hb1 t0 i7 m1 m2 w2 hs7 hmx hd0
                    obtain ⟨x, D', B', j', c', HBo⟩ := fp_line (A := A) (Rf := Rf) (a := a) (r := r) HOK.out HO.out.1 HT.out.2.1.mbb HT.out.2.1.fu (by have := HK25.out; omega) (m := 64 + 192 * k) (by have := HK25.out; omega) (fun q hq => by have := HO.out.2.1 q hq; have := HK25.out; omega) HO.out.2.2 (fun y hy => (HT.out.2.2.s2 y hy).2.1) xz St (by have := HSt.out; unfold maxLen; omega)
                    have HBo := Lib.hid HBo
                    have s4 : w4.cell? ⟨tb, 1, none⟩ = some (.int .i64 xz) := HT.out.1.cell 1
                    go_region_held3 (fun w' : World => w'.cell? ⟨tb, 1, none⟩ = some (.int .i64 xz)) (with_reducible (first | assumption | go_keep)) ((first
                      | (go_at_call 20; (with_reducible refine Calls.mono (HBo.out.ref _ (H5.out.1.gr0 (by repeat (first | exact Gr.refl _ _ | refine Gr.drew ?_))) (H5.out.2.1.gr0 (by repeat (first | exact Gr.refl _ _ | refine Gr.drew ?_)))) ?_); rintro rr w6 ⟨rfl, r6, q6, g6⟩; have g6' : Gr (Rf.all (cR C) ++ r.all) w5 w6 := (by refine Gr.trans ?_ g6; (repeat (first | exact Gr.refl _ _ | refine Gr.drew ?_))); have H6 := Lib.hid (And.intro (FPd.after HFS.out HT.out.2.1 HT.out.2.2 H5.out.2.2.1 H5.out.2.2.2.1 H5.out.2.2.2.2.1 g6' r6 q6 H5.out.2.2.2.2.2.1) (H5.out.2.2.2.2.2.2.gr g6' HTN.out.2)); have s6 : w6.cell? ⟨tb, 1, none⟩ = some (.int .i64 xz) := H6.out.2.cell 1; clear r6 q6 g6 g6')
                      | (go_at_call 18; (with_reducible refine Calls.mono (HBo.out.prog _ (HT.out.2.2.gr0 (by repeat (first | exact Gr.refl _ _ | refine Gr.drew ?_))).fl (HT.out.2.1.dev.gr0 (by repeat (first | exact Gr.refl _ _ | refine Gr.drew ?_)))) ?_); rintro rr w5 ⟨rfl, d5, b5, f5, g5⟩; have g5' : Gr (A.all (cR C) ++ a.all) w4 w5 := (by refine Gr.trans ?_ g5; (repeat (first | exact Gr.refl _ _ | refine Gr.drew ?_))); have hmd := FPd.mid HFS.out HT.out.2.1 HT.out.2.2 g5'; have H5 := Lib.hid (And.intro hmd.1 (And.intro hmd.2.1 (And.intro g5' (And.intro d5 (And.intro f5 (And.intro b5 (HT.out.1.gr g5' HTN.out.1))))))); have s5 : w5.cell? ⟨tb, 1, none⟩ = some (.int .i64 xz) := H5.out.2.2.2.2.2.2.cell 1; clear d5 b5 f5 g5 g5' hmd)))
                    go_wp2_with fail
                    go_meet
                    refine ⟨by simp, D', B', j', c', H6.out.1.1.more (by omega), H6.out.1.2, ?_, fun q hq => ?_, HBo.out.cu, H6.out.2⟩
                    · by_cases hx6 : x = 6
                      · exact .inr (HBo.out.off hx6)
                      · exact .inl (HBo.out.on hx6)
                    · have := HBo.out.ju q hq
                      have := HO.out.2.1 q hq
                      omega
                by_cases hs2 : s7 = 2
                · as_aux_lemma =>
                    have hb0 : (s7 == 0) = false := by simp; omega
                    have hb1 : (s7 == 1) = false := by simp; omega
                    have hb2 : (s7 == 2) = true := by simpa using hs2
                    clear hs0 hs1 hs2
                    have t2 := HT.out.1.cell 2
                    by_cases hkn : xk < 0
                    · skip
                      go_upto_region 25 with fail
                      clear hb0 hb1 hb2 t0 t2 i7 m1 m2 w2 hs7 hmx hd0
                      have HXV := Lib.hid (show xv < 18446744073709551616 from HXI.out.2.2.2.1)
                      obtain ⟨x, D', B', j', c', HBo⟩ := fp_word (A := A) (Rf := Rf) (a := a) (r := r) HOK.out HO.out.1 HT.out.2.1.mbb HT.out.2.1.fu (by have := HK25.out; omega) (m := 64 + 192 * k) (by have := HK25.out; omega) (fun q hq => by have := HO.out.2.1 q hq; have := HK25.out; omega) HO.out.2.2 (fun y hy => (HT.out.2.2.s2 y hy).2.1) xz 8 (by omega) xv HXV.out
                      have HBo := Lib.hid HBo
                      have s4 : w4.cell? ⟨tb, 1, none⟩ = some (.int .i64 xz) ∧ w4.cell? ⟨tb, 3, none⟩ = some (.int .u64 (xv : Int)) := ⟨HT.out.1.cell 1, HT.out.1.cell 3⟩
                      go_region_held3 (fun w' : World => w'.cell? ⟨tb, 1, none⟩ = some (.int .i64 xz) ∧ w'.cell? ⟨tb, 3, none⟩ = some (.int .u64 (xv : Int))) (with_reducible (first | assumption | go_keep)) ((first
                        | (go_at_call 20; (with_reducible refine Calls.mono (HBo.out.ref _ (H5.out.1.gr0 (by repeat (first | exact Gr.refl _ _ | refine Gr.drew ?_))) (H5.out.2.1.gr0 (by repeat (first | exact Gr.refl _ _ | refine Gr.drew ?_)))) ?_); rintro rr w6 ⟨rfl, r6, q6, g6⟩; have g6' : Gr (Rf.all (cR C) ++ r.all) w5 w6 := (by refine Gr.trans ?_ g6; (repeat (first | exact Gr.refl _ _ | refine Gr.drew ?_))); have H6 := Lib.hid (And.intro (FPd.after HFS.out HT.out.2.1 HT.out.2.2 H5.out.2.2.1 H5.out.2.2.2.1 H5.out.2.2.2.2.1 g6' r6 q6 H5.out.2.2.2.2.2.1) (H5.out.2.2.2.2.2.2.gr g6' HTN.out.2)); have s6 : w6.cell? ⟨tb, 1, none⟩ = some (.int .i64 xz) ∧ w6.cell? ⟨tb, 3, none⟩ = some (.int .u64 (xv : Int)) := ⟨H6.out.2.cell 1, H6.out.2.cell 3⟩; clear r6 q6 g6 g6')
                        | (go_at_call 21; (with_reducible refine Calls.mono (HBo.out.prog _ (HT.out.2.2.gr0 (by repeat (first | exact Gr.refl _ _ | refine Gr.drew ?_))).fl (HT.out.2.1.dev.gr0 (by repeat (first | exact Gr.refl _ _ | refine Gr.drew ?_)))) ?_); rintro rr w5 ⟨rfl, d5, b5, f5, g5⟩; have g5' : Gr (A.all (cR C) ++ a.all) w4 w5 := (by refine Gr.trans ?_ g5; (repeat (first | exact Gr.refl _ _ | refine Gr.drew ?_))); have hmd := FPd.mid HFS.out HT.out.2.1 HT.out.2.2 g5'; have H5 := Lib.hid (And.intro hmd.1 (And.intro hmd.2.1 (And.intro g5' (And.intro d5 (And.intro f5 (And.intro b5 (HT.out.1.gr g5' HTN.out.1))))))); have s5 : w5.cell? ⟨tb, 1, none⟩ = some (.int .i64 xz) ∧ w5.cell? ⟨tb, 3, none⟩ = some (.int .u64 (xv : Int)) := ⟨H5.out.2.2.2.2.2.2.cell 1, H5.out.2.2.2.2.2.2.cell 3⟩; clear d5 b5 f5 g5 g5' hmd)))
                      go_wp2_with fail
                      go_meet
                      refine ⟨by simp, D', B', j', c', H6.out.1.1.more (by omega), H6.out.1.2, ?_, fun q hq => ?_, HBo.out.cu, H6.out.2⟩
                      · by_cases hx6 : x = 6
                        · exact .inr (HBo.out.off hx6)
                        · exact .inl (HBo.out.on hx6)
                      · have := HBo.out.ju q hq
                        have := HO.out.2.1 q hq
                        omega
                    · skip
                      go_upto_region 25 with fail
                      clear hb0 hb1 hb2 t0 t2 i7 m1 m2 w2 hs7 hmx hd0
                      have HXV := Lib.hid (show xv < 18446744073709551616 from HXI.out.2.2.2.1)
                      obtain ⟨x, D', B', j', c', HBo⟩ := fp_word (A := A) (Rf := Rf) (a := a) (r := r) HOK.out HO.out.1 HT.out.2.1.mbb HT.out.2.1.fu (by have := HK25.out; omega) (m := 64 + 192 * k) (by have := HK25.out; omega) (fun q hq => by have := HO.out.2.1 q hq; have := HK25.out; omega) HO.out.2.2 (fun y hy => (HT.out.2.2.s2 y hy).2.1) xz xk (by omega) xv HXV.out
                      have HBo := Lib.hid HBo
                      have s4 : w4.cell? ⟨tb, 1, none⟩ = some (.int .i64 xz) ∧ w4.cell? ⟨tb, 3, none⟩ = some (.int .u64 (xv : Int)) := ⟨HT.out.1.cell 1, HT.out.1.cell 3⟩
                      go_region_held3 (fun w' : World => w'.cell? ⟨tb, 1, none⟩ = some (.int .i64 xz) ∧ w'.cell? ⟨tb, 3, none⟩ = some (.int .u64 (xv : Int))) (with_reducible (first | assumption | go_keep)) ((first
                        | (go_at_call 20; (with_reducible refine Calls.mono (HBo.out.ref _ (H5.out.1.gr0 (by repeat (first | exact Gr.refl _ _ | refine Gr.drew ?_))) (H5.out.2.1.gr0 (by repeat (first | exact Gr.refl _ _ | refine Gr.drew ?_)))) ?_); rintro rr w6 ⟨rfl, r6, q6, g6⟩; have g6' : Gr (Rf.all (cR C) ++ r.all) w5 w6 := (by refine Gr.trans ?_ g6; (repeat (first | exact Gr.refl _ _ | refine Gr.drew ?_))); have H6 := Lib.hid (And.intro (FPd.after HFS.out HT.out.2.1 HT.out.2.2 H5.out.2.2.1 H5.out.2.2.2.1 H5.out.2.2.2.2.1 g6' r6 q6 H5.out.2.2.2.2.2.1) (H5.out.2.2.2.2.2.2.gr g6' HTN.out.2)); have s6 : w6.cell? ⟨tb, 1, none⟩ = some (.int .i64 xz) ∧ w6.cell? ⟨tb, 3, none⟩ = some (.int .u64 (xv : Int)) := ⟨H6.out.2.cell 1, H6.out.2.cell 3⟩; clear r6 q6 g6 g6')
                        | (go_at_call 21; (with_reducible refine Calls.mono (HBo.out.prog _ (HT.out.2.2.gr0 (by repeat (first | exact Gr.refl _ _ | refine Gr.drew ?_))).fl (HT.out.2.1.dev.gr0 (by repeat (first | exact Gr.refl _ _ | refine Gr.drew ?_)))) ?_); rintro rr w5 ⟨rfl, d5, b5, f5, g5⟩; have g5' : Gr (A.all (cR C) ++ a.all) w4 w5 := (by refine Gr.trans ?_ g5; (repeat (first | exact Gr.refl _ _ | refine Gr.drew ?_))); have hmd := FPd.mid HFS.out HT.out.2.1 HT.out.2.2 g5'; have H5 := Lib.hid (And.intro hmd.1 (And.intro hmd.2.1 (And.intro g5' (And.intro d5 (And.intro f5 (And.intro b5 (HT.out.1.gr g5' HTN.out.1))))))); have s5 : w5.cell? ⟨tb, 1, none⟩ = some (.int .i64 xz) ∧ w5.cell? ⟨tb, 3, none⟩ = some (.int .u64 (xv : Int)) := ⟨H5.out.2.2.2.2.2.2.cell 1, H5.out.2.2.2.2.2.2.cell 3⟩; clear d5 b5 f5 g5 g5' hmd)))
                      go_wp2_with fail
                      go_meet
                      refine ⟨by simp, D', B', j', c', H6.out.1.1.more (by omega), H6.out.1.2, ?_, fun q hq => ?_, HBo.out.cu, H6.out.2⟩
                      · by_cases hx6 : x = 6
                        · exact .inr (HBo.out.off hx6)
                        · exact .inl (HBo.out.on hx6)
                      · have := HBo.out.ju q hq
                        have := HO.out.2.1 q hq
                        omega
                by_cases hs3 : s7 = 3
                · as_aux_lemma =>
                    have hb0 : (s7 == 0) = false := by simp; omega
                    have hb1 : (s7 == 1) = false := by simp; omega
                    have hb2 : (s7 == 2) = false := by simp; omega
                    have hb3 : (s7 == 3) = true := by simpa using hs3
                    clear hs0 hs1 hs2 hs3
                    have t1 := HT.out.1.cell 1
                    go_wp2_with fail
                    clear hb0 hb1 hb2 hb3 t0 i7 m1 m2 w2 hs7 hmx hd0
                    by_cases hin : xz < 0 ∨ ((cR C * cL C : Nat) : Int) ≤ xz
                    · refine (fread_out xz HT.out.2.2.fl hin).mono ?_
                      rintro e w5 ⟨rfl, g5⟩
                      have H5 := Lib.hid (And.intro (HT.out.2.1.gr0 g5) (And.intro (HT.out.2.2.gr0 g5) (HT.out.1.gr0 g5)))
                      have t1 := H5.out.2.2.cell 1
                      have HRd := Lib.hid (rfread9_out xz (.pointer (some ⟨r.rd, 0, none⟩)) H5.out.2.1.rf hin)
                      clear hin g5
                      go_wp2_with fail
                      refine HRd.out.mono ?_
                      rintro e w6 ⟨rfl, g6⟩
                      have HZ := Lib.hid (And.intro (H5.out.1.gr0 g6) (And.intro (H5.out.2.1.gr0 g6) (H5.out.2.2.gr0 g6)))
                      clear g6 t1 H5 HRd
                      go_wp2_with fail
                      go_meet
                      exact ⟨by first | rfl | simp, D, B, j, c, HZ.out.1.more (by omega), HZ.out.2.1.more (by omega), .inl HO.out.1, fun q hq => by have := HO.out.2.1 q hq; omega, HO.out.2.2, HZ.out.2.2⟩
                    · obtain ⟨iN, hiN⟩ : ∃ n : Nat, xz = (n : Int) := ⟨xz.toNat, by omega⟩
                      subst hiN
                      have hil : iN < cR C * cL C := by omega
                      have hqi := qi_in HOK.out hil
                      have HRp := Lib.hid (fread_in iN HT.out.2.2.fl hil HT.out.2.1.dev HO.out.1.fit)
                      have HRd := Lib.hid (fun W (q1 : RefIs W r D) (q2 : RfIs W Rf C c) => rfread9 (B := B) (j := j) iN q2 hil q1 (HO.out.1.on hqi.1) HT.out.2.1.mbb.1 (by have := HO.out.2.1 _ hqi.1; have := HK25.out; omega))
                      rw [(HO.out.1.on hqi.1).readZ (HOK.out.reg hqi.1).1 (iL C iN)] at HRp
                      obtain ⟨T, hT⟩ : ∃ T, (readR D (bankR (regC C (qL C iN))) (B (qL C iN)) (slotJ (regC C (qL C iN)) (j (qL C iN)) (iL C iN))).1 = T := ⟨_, rfl⟩
                      rw [hT] at HRp HRd
                      clear hT hin hil hqi
                      refine HRp.out.mono ?_
                      rintro e w5 ⟨rfl, g5⟩
                      have H5 := Lib.hid (And.intro (HT.out.2.1.gr0 g5) (And.intro (HT.out.2.2.gr0 g5) (HT.out.1.gr0 g5)))
                      have t1 := H5.out.2.2.cell 1
                      clear g5
                      go_wp2_with fail
                      refine (HRd.out _ H5.out.1.ref H5.out.2.1.rf).mono ?_
                      rintro e w6 ⟨rfl, g6⟩
                      have HZ := Lib.hid (And.intro (H5.out.1.gr0 g6) (And.intro (H5.out.2.1.gr0 g6) (H5.out.2.2.gr0 g6)))
                      clear g6 t1 H5 HRd HRp
                      go_wp2_with fail
                      go_meet
                      exact ⟨by first | rfl | simp, D, B, j, c, HZ.out.1.more (by omega), HZ.out.2.1.more (by omega), .inl HO.out.1, fun q hq => by have := HO.out.2.1 q hq; omega, HO.out.2.2, HZ.out.2.2⟩
                by_cases hs4 : s7 = 4
                · as_aux_lemma =>
                    have hb0 : (s7 == 0) = false := by simp; omega
                    have hb1 : (s7 == 1) = false := by simp; omega
                    have hb2 : (s7 == 2) = false := by simp; omega
                    have hb3 : (s7 == 3) = false := by simp; omega
                    have hb4 : (s7 == 4) = true := by simpa using hs4
                    clear hs0 hs1 hs2 hs3 hs4
                    have hz0 := mx_nonneg xz
                    obtain ⟨n1, S, z4, k4, q4, T, P4, U, hbk⟩ := brk_nums HOK.out HNE.out HN.out.2.1 (mx xz) hz0
                    have HBk := Lib.hid hbk
                    have t1 := HT.out.1.cell 1
                    have b1 := hbk.w1
                    have b2 := hbk.z1
                    have b3 := hbk.t1
                    have b4 := hbk.zr
                    have b5 := hbk.w2
                    have b6 := hbk.t2
                    have b7 := hbk.w3
                    have b8 := hbk.w4
                    have b9 := hbk.w5
                    have b10 := hbk.t3
                    have b11 := hbk.zs
                    have b12 := hbk.w6
                    have b13 := hbk.w7
                    have b14 := hbk.t4
                    have b15 := hbk.w8
                    have b16 := hbk.w9
                    have b17 : ¬ n1 = 0 := fun e => b2 (by omega)
                    have b18 : ¬ S = 0 := fun e => b11 (by omega)
                    clear hbk
                    go_upto_region 32 with fail
                    clear hb0 hb1 hb2 hb3 hb4 t0 t1 i7 m1 m2 w2 hs7 hmx hd0
                    have HPl := Lib.hid (fun W => show Calls Tryz.prog 24 #[.agg #[.int .i64 C.r, .int .i64 C.l, .int .i64 C.s, .int .i64 C.psi, .int .u64 (C.key : Int)], .int .i64 (q4 : Int)] W (fun e w' => e = .returned (.agg #[.int .i64 (P4 : Int), .int .i64 C.l, .int .i64 C.s, .int .i64 C.psi]) ∧ Gr [] W w') from by rw [← HBk.out.p4]; exact rplan9 C HOK.out.ok (q4 : Int) ⟨by omega, HBk.out.qi⟩ W)
                    have s5 := fiveP HT.out.2.1.cfg
                    have s5d := kD5 s5
                    have hlt5 := HT.out.2.1.cfg.lt
                    go_cut [23, 97, 113, 127, 149, 174] (fun pv s97 s113 s127 s149 s174 wz => ∃ nb : Nat, pv = .pointer (some ⟨nb, 0, none⟩) ∧ Gr [] w4 wz ∧ wz.cell? ⟨nb, 0, none⟩ = some (.int .i64 (P4 : Int)))
                    case first =>
                      as_aux_lemma =>
                        go_region_held3 (fun w' : World => w'.cell? ⟨pb, 0, none⟩ = some (.int .i64 C.r) ∧ w'.cell? ⟨pb, 1, none⟩ = some (.int .i64 C.l) ∧ w'.cell? ⟨pb, 2, none⟩ = some (.int .i64 C.s) ∧ w'.cell? ⟨pb, 3, none⟩ = some (.int .i64 C.psi) ∧ w'.cell? ⟨pb, 4, none⟩ = some (.int .u64 (C.key : Int))) (with_reducible (first | assumption | ((repeat (first | assumption | refine kD5 ?_ | refine kA5 ?_ | refine kS5 ?_ (by omega))); done))) ((go_at_call 24; (with_reducible refine (HPl.out _).mono ?_); rintro rr w5 ⟨rfl, g5⟩; (with_reducible have s6 := keep5 (by assumption) g5); (first
                      | ((with_reducible have yh := after1P g5); have l5 : w4.heap.size < w5.heap.size := yh.lt; have HG5 := Lib.hid (show Gr [] w4 w5 from by refine Gr.next0 ?_ g5; repeat (first | exact Gr.refl _ _ | refine Gr.drew ?_ | refine Gr.alloc ?_ _)); have y0 : w5.cell? ⟨w4.heap.size, 0, none⟩ = some (.int .i64 0) := yh.cell 0; have y1 : w5.cell? ⟨w4.heap.size, 1, none⟩ = some (.int .i64 0) := yh.cell 1; have y2 : w5.cell? ⟨w4.heap.size, 2, none⟩ = some (.int .i64 0) := yh.cell 2; have y3 : w5.cell? ⟨w4.heap.size, 3, none⟩ = some (.int .i64 0) := yh.cell 3; have z0 : w5.frozen? ⟨w4.heap.size, 0, none⟩ = false := yh.frozen 0; have z1 : w5.frozen? ⟨w4.heap.size, 1, none⟩ = false := yh.frozen 1; have z2 : w5.frozen? ⟨w4.heap.size, 2, none⟩ = false := yh.frozen 2; have z3 : w5.frozen? ⟨w4.heap.size, 3, none⟩ = false := yh.frozen 3; clear yh g5)
                      | ((with_reducible have l5 := after0P g5); have HG5 := Lib.hid (show Gr [] w4 w5 from by refine Gr.next0 ?_ g5; repeat (first | exact Gr.refl _ _ | refine Gr.drew ?_)); clear g5))))
                        all_goals (go_wp2_with fail)
                        all_goals go_meet
                        all_goals (first
                          | exact ⟨_, rfl, HG5.out.alloc _, (Holds.new w5 _ _).cell 0⟩
                          | exact ⟨_, rfl, box4_set HG5.out (Nat.le_refl _) (by assumption)⟩)
                    case rest =>
                      obtain ⟨nb, rfl, gx, cx⟩ := hcut
                      obtain ⟨wx, hwx⟩ : ∃ wx, wx = wc := ⟨_, rfl⟩
                      rw [← hwx] at gx cx ⊢
                      have HT := Lib.hid (And.intro (HT.out.1.gr0 gx) (And.intro (HT.out.2.1.gr0 gx) (HT.out.2.2.gr0 gx)))
                      clear hwx s5 s5d hlt5 gx HPl b1 b2 b3 b4 b5 b6 b7 b8 b9 b10 b11 b12 b17 b18
                      have s2 := (fiveP HT.out.2.1.cfg).2.2.1
                      by_cases hkU : U ≤ k4
                      · have hcmp : (U : Int) ≤ (k4 : Int) := by omega
                        have hcmb : decide (U ≤ k4) = true := by simpa using hkU
                        have HOut := Lib.hid (HBk.out.out hkU)
                        have HKN := Lib.hid HBk.out.kn
                        clear HBk
                        go_wp2_with fail
                        have HKD := Lib.hid (show k4 < D.n by have := HKN.out; have := HNE.out; have := HO.out.1.fit; omega)
                        refine (break_in a D k4 _ HT.out.2.1.dev HKD.out).mono ?_
                        rintro e w5 ⟨rfl, d5, g5⟩
                        have g5 := g5.mono (cs := a.all) (fun b hb => by simp at hb; subst hb; simp [DevA.all])
                        have g5' : Gr (A.all (cR C) ++ a.all) wx w5 := g5.mono fun x hx => List.mem_append.2 (.inr hx)
                        obtain ⟨_, ⟨R, hR, hS⟩, _, _⟩ := FPd.mid HFS.out HT.out.2.1 HT.out.2.2 g5'
                        have HTB := Lib.hid (HT.out.1.gr g5' HTN.out.1)
                        have H5 := Lib.hid (And.intro d5 g5)
                        have hn3 : R.n = D.n := hS.n
                        have r2 := hR.c2
                        rw [hn3] at r2
                        have hib : (k4 : Int) < (D.n : Int) := by have := HKD.out; omega
                        obtain ⟨dn, hdn⟩ : ∃ dn, dn = D.n := ⟨_, rfl⟩
                        rw [← hdn] at r2 hib
                        have hi0 : (0 : Int) ≤ (k4 : Int) := by omega
                        have rb := hR.badAt (i := k4) (by rw [hn3]; exact HKD.out)
                        have fb : w5.frozen? ⟨r.rb, k4, none⟩ = false := hR.bad.frozen k4
                        have HRS := Lib.hid (And.intro hR hS)
                        clear d5 g5 g5' hR hS hn3 hdn s2 hcmp hcmb hkU b13 b14 b15 b16 cx
                        generalize R.bad k4 = xb at *
                        go_wp2_with fail
                        have g6 : Gr r.all w5 (w5.setCell ⟨r.rb, k4, none⟩ (.bool true)) := (grSet w5 r.rb k4 (.bool true)).mono (cs := r.all) (fun b hb => by simp at hb; subst hb; simp [RefA.all])
                        have H6 := Lib.hid (show RefIs (w5.setCell ⟨r.rb, k4, none⟩ (.bool true)) r { D with bad := fun j => if j = k4 then true else D.bad j } from by
                          have hS := HRS.out.2
                          exact ⟨_, HRS.out.1.setBad k4 true, ⟨hS.n, hS.wear, (fun l hl => by show (if l = k4 then true else R.bad l) = (if l = k4 then true else D.bad l); rw [hS.bad l hl]), hS.fuse, hS.off, hS.cnt, hS.med, hS.buf⟩⟩)
                        have HZ := Lib.hid (And.intro (HT.out.2.1.moved HFS.out HT.out.2.2 H5.out.2 H5.out.1 g6 H6.out (show Bd _ (200000 + 4300 * k + 4250) from HT.out.2.1.bd.mono (by omega))) (HTB.out.gr g6 fun e => HTN.out.2 (List.mem_append.2 (.inr e))))
                        clear r2 rb fb g6
                        generalize w5.setCell ⟨r.rb, k4, none⟩ (.bool true) = wz at *
                        go_meet
                        exact ⟨by first | rfl | simp, _, B, j, c, HZ.out.1.1, HZ.out.1.2.more (by omega), .inl (HO.out.1.brk HOK.out HOut.out), fun q hq => by have := HO.out.2.1 q hq; omega, HO.out.2.2, HZ.out.2⟩
                      · have hcmp : ¬ ((U : Int) ≤ (k4 : Int)) := by omega
                        have hcmb : decide (U ≤ k4) = false := by simpa using hkU
                        clear HBk
                        go_wp2_with fail
                        clear s2 b13 b14 b15 b16 cx hcmp hcmb hkU
                        go_meet
                        exact ⟨by first | rfl | simp, D, B, j, c, HT.out.2.1.more (by omega), HT.out.2.2.more (by omega), .inl HO.out.1, fun q hq => by have := HO.out.2.1 q hq; omega, HO.out.2.2, HT.out.1⟩
                by_cases hs5 : s7 = 5
                · as_aux_lemma =>
                    have hb0 : (s7 == 0) = false := by simp; omega
                    have hb1 : (s7 == 1) = false := by simp; omega
                    have hb2 : (s7 == 2) = false := by simp; omega
                    have hb3 : (s7 == 3) = false := by simp; omega
                    have hb4 : (s7 == 4) = false := by simp; omega
                    have hb5 : (s7 == 5) = true := by simpa using hs5
                    clear hs0 hs1 hs2 hs3 hs4 hs5
                    have t2 := HT.out.1.cell 2
                    go_wp2_with fail
                    clear hb0 hb1 hb2 hb3 hb4 hb5 t0 i7 m1 m2 w2 hs7 hd0
                    refine (fuse_any a D xk HXI.out.2.2.1.2 _ HT.out.2.1.dev).mono ?_
                    rintro e w5 ⟨rfl, d5, g5⟩
                    have g5 := g5.mono (cs := a.all) (fun b hb => by simp at hb; subst hb; simp [DevA.all])
                    have g5' : Gr (A.all (cR C) ++ a.all) w4 w5 := g5.mono fun x hx => List.mem_append.2 (.inr hx)
                    obtain ⟨_, ⟨R, hR, hS⟩, _, _⟩ := FPd.mid HFS.out HT.out.2.1 HT.out.2.2 g5'
                    have HTB := Lib.hid (HT.out.1.gr g5' HTN.out.1)
                    have s1 := HTB.out.cell 2
                    have H5 := Lib.hid (And.intro d5 g5)
                    have r3 := hR.c3
                    have f3 := hR.fr 3
                    have HRS := Lib.hid (And.intro hR hS)
                    clear d5 g5 g5' hR hS t2 hmx
                    have hmr := max0r Tryz.prog
                    generalize R.fuse = xf at *
                    go_wp2_with fail
                    have g6 : Gr r.all w5 (w5.setCell ⟨r.rd, 3, none⟩ (.int .i64 (mx xk))) := (grSet w5 r.rd 3 (.int .i64 (mx xk))).mono (cs := r.all) (fun b hb => by simp at hb; subst hb; simp [RefA.all])
                    have H6 := Lib.hid (show RefIs (w5.setCell ⟨r.rd, 3, none⟩ (.int .i64 (mx xk))) r { D with fuse := mx xk } from by
                      have hS := HRS.out.2
                      exact ⟨_, HRS.out.1.setFuse (mx xk), ⟨hS.n, hS.wear, hS.bad, rfl, hS.off, hS.cnt, hS.med, hS.buf⟩⟩)
                    have HZ := Lib.hid (And.intro (HT.out.2.1.moved HFS.out HT.out.2.2 H5.out.2 H5.out.1 g6 H6.out (show Bd _ (200000 + 4300 * k + 4250) from HT.out.2.1.bd.mono (by omega))) (HTB.out.gr g6 fun e => HTN.out.2 (List.mem_append.2 (.inr e))))
                    clear r3 f3 g6 s1 hmr
                    generalize w5.setCell ⟨r.rd, 3, none⟩ (.int .i64 (mx xk)) = wz at *
                    go_meet
                    exact ⟨by first | rfl | simp, _, B, j, c, HZ.out.1.1, HZ.out.1.2.more (by omega), .inl (HO.out.1.fuse (mx xk)), fun q hq => by have := HO.out.2.1 q hq; omega, HO.out.2.2, HZ.out.2⟩
                by_cases hs6 : s7 = 6
                · as_aux_lemma =>
                    have hb0 : (s7 == 0) = false := by simp; omega
                    have hb1 : (s7 == 1) = false := by simp; omega
                    have hb2 : (s7 == 2) = false := by simp; omega
                    have hb3 : (s7 == 3) = false := by simp; omega
                    have hb4 : (s7 == 4) = false := by simp; omega
                    have hb5 : (s7 == 5) = false := by simp; omega
                    have hb6 : (s7 == 6) = true := by simpa using hs6
                    clear hs0 hs1 hs2 hs3 hs4 hs5 hs6
                    go_upto_region 40 with fail
                    clear hb0 hb1 hb2 hb3 hb4 hb5 hb6 t0 i7 m1 m2 w2 hs7 hmx hd0
                    obtain ⟨R, hR, hS⟩ := HT.out.2.1.ref
                    have r4 := hR.c4
                    have f4 := hR.fr 4
                    have HR0 := Lib.hid (And.intro hR hS)
                    clear hR hS
                    have g4 : Gr r.all w4 (w4.setCell ⟨r.rd, 4, none⟩ (.bool true)) := (grSet w4 r.rd 4 (.bool true)).mono (cs := r.all) (fun b hb => by simp at hb; subst hb; simp [RefA.all])
                    have HR1 := Lib.hid (show RefRow (w4.setCell ⟨r.rd, 4, none⟩ (.bool true)) r { R with off := true } from HR0.out.1.setOff true)
                    have H4 := Lib.hid (And.intro (HT.out.2.1.dev.gr g4 (fun x hx => HFS.out.sep x hx)) (And.intro g4 (HT.out.1.gr g4 fun e => HTN.out.2 (List.mem_append.2 (.inr e)))))
                    clear g4
                    go_upto_region 41 with fail
                    clear r4 f4
                    generalize w4.setCell ⟨r.rd, 4, none⟩ (.bool true) = w9 at *
                    go_wp2_with fail
                    refine (fuse_any a D 1 (by omega) _ H4.out.1).mono ?_
                    rintro e w5 ⟨rfl, d5, g5⟩
                    have g5 := g5.mono (cs := a.all) (fun b hb => by simp at hb; subst hb; simp [DevA.all])
                    have H5 := Lib.hid (And.intro d5 g5)
                    clear d5 g5
                    go_wp2_with fail
                    refine (fence_any a _ _ H5.out.1 (by have := HT.out.2.1.bd.1; have := HK25.out; show D.cnt < _; omega) (fun l => by have := HT.out.2.1.bd.2 l; have := HK25.out; show 0 ≤ D.wear l ∧ D.wear l < _; omega)).mono ?_
                    rintro e w6 ⟨rfl, d6, g6⟩
                    have hd6 : opD { D with fuse := mx 1 } true fenceF = { D with fuse := 0, off := true } := by
                      unfold opD reachE
                      rw [show ({ D with fuse := mx 1 } : DevS).off = false from HO.out.1.live.off]
                      rfl
                    rw [hd6] at d6
                    have g56 := H5.out.2.trans g6
                    have g56' : Gr (A.all (cR C) ++ a.all) w9 w6 := g56.mono fun x hx => List.mem_append.2 (.inr hx)
                    have H6 := Lib.hid (And.intro d6 (And.intro g56 (And.intro (HR1.out.gr g56 (fun x hx hy => HFS.out.sep x hy hx)) (H4.out.2.2.gr g56' HTN.out.1))))
                    clear d6 g6 hd6 g56 g56' H5
                    have r3 := H6.out.2.2.1.c3
                    have f3 := H6.out.2.2.1.fr 3
                    go_wp2_with fail
                    have g7 : Gr r.all w6 (w6.setCell ⟨r.rd, 3, none⟩ (.int .i64 0)) := (grSet w6 r.rd 3 (.int .i64 0)).mono (cs := r.all) (fun b hb => by simp at hb; subst hb; simp [RefA.all])
                    have H7 := Lib.hid (show RefIs (w6.setCell ⟨r.rd, 3, none⟩ (.int .i64 0)) r { D with fuse := 0, off := true } from by
                      have hS := HR0.out.2
                      exact ⟨_, H6.out.2.2.1.setFuse 0, ⟨hS.n, hS.wear, hS.bad, rfl, rfl, hS.cnt, hS.med, hS.buf⟩⟩)
                    have HZ := Lib.hid (And.intro (HT.out.2.1.moved3 HFS.out HT.out.2.2 H4.out.2.1 H6.out.2.1 H6.out.1 g7 H7.out (show Bd _ (200000 + 4300 * k + 4250) from HT.out.2.1.bd.mono (by omega))) (H6.out.2.2.2.gr g7 fun e => HTN.out.2 (List.mem_append.2 (.inr e))))
                    clear r3 f3 g7 H4 H6 H7 HR1 HR0
                    generalize w6.setCell ⟨r.rd, 3, none⟩ (.int .i64 0) = wz at *
                    go_meet
                    exact ⟨by first | rfl | simp, _, B, j, c, HZ.out.1.1, HZ.out.1.2.more (by omega), .inr (HO.out.1.out HOK.out), fun q hq => by have := HO.out.2.1 q hq; omega, HO.out.2.2, HZ.out.2⟩
                exact absurd m2 (by omega)
              case rest =>
                as_aux_lemma =>
                  obtain ⟨rfl, DD, BB, j2, c2, sd, sq, onf, hj2, hc2, ht⟩ := hcut
                  obtain ⟨wz, hwz⟩ : ∃ wz, wz = wc := ⟨_, rfl⟩
                  rw [← hwz] at sd sq ht ⊢
                  clear hwz HT t0 i7 m1 m2 w2 hs7 hmx hd0
                  have HT := Lib.hid (And.intro ht (And.intro sd sq))
                  have HJ := Lib.hid (And.intro hj2 hc2)
                  clear sd sq ht hj2 hc2
                  go_wp2_with fail
                  refine (mediaF_any a r DD _ HT.out.2.1.dev HT.out.2.1.ref).mono ?_
                  rintro e w6 ⟨rfl, g6⟩
                  have HT := Lib.hid (And.intro (HT.out.1.gr0 g6) (And.intro (HT.out.2.1.gr0 g6) (HT.out.2.2.gr0 g6)))
                  clear g6
                  have c4 := HT.out.2.1.ref.c4
                  obtain ⟨bo, hbo⟩ : ∃ bo, bo = DD.off := ⟨_, rfl⟩
                  rw [← hbo] at c4
                  have HBO := Lib.hid hbo
                  clear hbo
                  go_upto_if 246 with fail
                  clear c4
                  go_cut [10, 12] (fun fv qv wy => ∃ (D : DevS) (B : Nat → BkS) (j c : Nat → Nat) (A : FlA) (Rf : RfA), fv = .pointer (some ⟨A.fb, 0, none⟩) ∧ qv = .pointer (some ⟨Rf.fb, 0, none⟩) ∧ FPd w a r C pb D (200000 + 4300 * (k + 1)) wy ∧ FPq a r C pb A Rf B j c (64 + 192 * (k + 1)) wy ∧ OnF C D B j ∧ (∀ q, q < cR C → j q ≤ 2 * (k + 1)) ∧ ∀ q, q < cR C → c q ≤ 65536)
                  case first =>
                    rcases onf with on | off
                    · as_aux_lemma =>
                        have HON := Lib.hid on
                        obtain rfl : bo = false := HBO.out.trans on.live.off
                        clear on
                        go_wp2_with fail
                        go_meet
                        exact ⟨DD, BB, j2, c2, A, Rf, rfl, rfl, HT.out.2.1.more (by omega), HT.out.2.2.more (by omega), HON.out, fun q hq => by have := HJ.out.1 q hq; omega, HJ.out.2⟩
                    · as_aux_lemma =>
                        have HOF := Lib.hid off
                        obtain rfl : bo = true := HBO.out.trans off.off
                        clear off
                        go_upto_region 47 with fail
                        have k5 := HT.out.1.cell 5
                        have HKP := Lib.hid (show ∀ j, j < xkl → ∃ b o, xao = some ⟨b, o, none⟩ ∧ b < w.heap.size ∧ w.cell? ⟨b, o + j, none⟩ = some (.bool (xkp j)) from HXI.out.2.2.2.2.2.1)
                        go_cut [24] (fun kv wz => wz = w6 ∧ ∃ (kl : Nat) (kp : Nat → Bool), ∀ W, Gr [] w W → KeepIs W kv kl kp)
                        case first =>
                          have HKN := Lib.hid HXI.out.2.2.2.2.2.2.2.2
                          have hkl1 : xkl ≤ xkc := HXI.out.2.2.2.2.2.2.1
                          have hkl2 : xkc ≤ 9223372036854775807 := by have := HXI.out.2.2.2.2.2.2.2.1; unfold maxLen at this; simp only at this; omega
                          cases xao with
                          | none =>
                            obtain rfl : xkc = 0 := HKN.out rfl
                            obtain rfl : xkl = 0 := by omega
                            have hmk := minIsP Tryz.prog 0 0 30 30 rfl rfl
                            go_wp2_with fail
                            go_meet
                            exact ⟨rfl, 0, fun _ => false, fun W g => ⟨none, 0, rfl, (fun j hj => by omega), (fun _ _ => rfl), Nat.zero_le _⟩⟩
                          | some ad =>
                            by_cases h0 : xkl = 0
                            · subst h0
                              have hmk := minIsP Tryz.prog 0 0 30 30 rfl rfl
                              go_wp2_with fail
                              go_meet
                              exact ⟨rfl, 0, fun _ => false, fun W g => ⟨some ad, _, rfl, (fun j hj => by omega), (fun _ _ => rfl), Nat.zero_le _⟩⟩
                            · obtain ⟨bk, ok, hbo, _⟩ := HKP.out 0 (by omega)
                              obtain rfl := Option.some.inj hbo
                              obtain ⟨mk, hmk0⟩ : ∃ m, m = min xkl 30 := ⟨_, rfl⟩
                              have hmk := minIsP Tryz.prog xkl mk 30 30 rfl hmk0
                              have hm1 : mk ≤ xkl := by omega
                              have HM2 := Lib.hid (show mk ≤ xkl ∧ mk ≤ 30 by omega)
                              clear hmk0 hbo h0
                              go_wp2_with fail
                              go_meet
                              refine ⟨rfl, mk, fun j => if j < mk then xkp j else false, fun W g => ⟨some ⟨bk, ok, none⟩, _, rfl, (fun j hj => ?_), (fun j hj => if_neg (by omega)), Nat.le_trans HM2.out.2 (by unfold maxLen; omega)⟩⟩
                              obtain ⟨b', o', q1, q2, q3⟩ := HKP.out j (by have := HM2.out; omega)
                              obtain ⟨rfl, rfl⟩ : bk = b' ∧ ok = o' := by cases q1; exact ⟨rfl, rfl⟩
                              refine ⟨bk, ok, rfl, Nat.lt_of_lt_of_le q2 g.size, ?_⟩
                              rw [g.cell0 q2, q3]
                              show some (Value.bool (xkp j)) = some (Value.bool (if j < mk then xkp j else false))
                              rw [if_pos hj]
                        case rest =>
                          obtain ⟨rfl, kl, kp, hki⟩ := hcut
                          have HK24 := Lib.hid hki
                          clear hki k5
                          have HBt := Lib.hid (boot_any a DD _ kl kp _ HT.out.2.1.dev (HK24.out _ HT.out.2.1.gr) (fun l => by have := HT.out.2.1.bd.2 l; have := HK25.out; omega) (by have := HT.out.2.1.bd.1; have := HK25.out; omega))
                          go_wp2_with fail
                          refine HBt.out.mono ?_
                          rintro e v5 ⟨rfl, ⟨LB, hLB, d5⟩, g5⟩
                          obtain ⟨_, mr, mc, mg⟩ := FPd.mid HFS.out HT.out.2.1 HT.out.2.2 (g5.mono fun x hx => List.mem_append.2 (.inr hx))
                          have HLB := Lib.hid (ref_boot _ kl kp LB mr (HK24.out _ mg) (fun l => by have := HT.out.2.1.bd.2 l; have := HK25.out; omega) HT.out.2.1.dev.ok.sup hLB)
                          obtain ⟨B16, j16, hj16, hon16, hti16⟩ := OnF.boot HOK.out (B := BB) (.inr HOF.out) kp hLB
                          obtain ⟨D16, hD16⟩ : ∃ D16, D16 = bootD DD LB kp := ⟨_, rfl⟩
                          rw [← hD16] at hon16 hti16 d5 HLB
                          have HB16 := Lib.hid (show Bd D16 (200000 + 4300 * (k + 1)) by rw [hD16]; exact (boot_bd HT.out.2.1.bd).mono (by omega))
                          have HCM := Lib.hid (show Calm D16 by rw [hD16]; exact boot_calm DD LB kp)
                          have H5 := Lib.hid (And.intro d5 (And.intro g5 (And.intro hon16 hti16)))
                          have HJ16 := Lib.hid (show ∀ q, q < cR C → j16 q ≤ 2 * (k + 1) from fun q hq => by have := hj16 q hq; have := HO.out.2.1 q hq; omega)
                          clear d5 g5 hLB mr mc mg hon16 hti16 hD16 HBt hj16
                          go_wp2_with fail
                          refine HLB.out.mono ?_
                          rintro e v6 ⟨rfl, r6, g6⟩
                          have HSD := Lib.hid (FPd.moved HFS.out HT.out.2.1 HT.out.2.2 H5.out.2.1 H5.out.1 g6 r6 HB16.out).1
                          clear r6 g6 HLB HB16
                          obtain ⟨G0, L0⟩ := H5.out.2.2.2
                          have HOp := Lib.hid (fopen_ok HSD.out.dev HOK.out H5.out.2.2.1.fit HCM.out L0 (fun q hq => by have := HJ16.out q hq; have := HK25.out; omega))
                          clear L0
                          go_wp2_with fail
                          refine HOp.out.mono ?_
                          rintro e wB ⟨A0, rfl, fB, nB, gB⟩
                          have HC1 := Lib.hid (And.intro (HSD.out.gr0 gB) fB)
                          have HNA := Lib.hid (show ∀ x ∈ A0.all (cR C), x ∉ r.all ∧ pb < x from fun x hx => ⟨fun q => by have := nB x hx; have := HSD.out.ref.lt x q; omega, by have := nB x hx; have := HSD.out.cfg.lt; omega⟩)
                          clear fB nB gB HSD HOp
                          obtain ⟨c0, c1, c2, c3, c4⟩ := fiveP HC1.out.1.cfg
                          have HRo := Lib.hid (fun W => show Calls Tryz.prog 17 #[.agg #[.int .i64 C.r, .int .i64 C.l, .int .i64 C.s, .int .i64 C.psi, .int .u64 (C.key : Int)]] W _ from ropen9 HOK.out W)
                          go_wp2_with fail
                          refine (HRo.out _).mono ?_
                          rintro e wC ⟨R0, rfl, fC, nC, gC⟩
                          have HC2 := Lib.hid (show FPd w a r C pb D16 (200000 + 4300 * (k + 1)) wC ∧ FPq a r C pb A0 R0 B16 j16 (fun _ => 0) 64 wC from ⟨HC1.out.1.gr0 gC, HC1.out.2.gr gC (by simp), fC, fun x hx => ⟨fun q => by have := nC x q; have := HC1.out.2.lt x hx; omega, HNA.out x hx⟩, fun x hx => ⟨fun q => by have := nC x hx; have := HC1.out.1.dev.lt x q; omega, fun q => by have := nC x hx; have := HC1.out.1.ref.lt x q; omega, by have := nC x hx; have := HC1.out.1.cfg.lt; omega⟩⟩)
                          clear fC nC gC HC1 HNA HRo c0 c1 c2 c3 c4
                          go_wp2_with fail
                          go_meet
                          exact ⟨D16, B16, j16, fun _ => 0, A0, R0, rfl, rfl, HC2.out.1, HC2.out.2.more (by omega), H5.out.2.2.1, HJ16.out, fun q _ => Nat.zero_le _⟩
                  case rest =>
                    as_aux_lemma =>
                      clear HT HJ onf HO HSt HBO HTN HM8 HXI
                      obtain ⟨D, B, j, c, A, Rf, rfl, rfl, h1, h2, h3, h4, h5⟩ := hcut
                      obtain ⟨wy, hwy⟩ : ∃ wy, wy = wc := ⟨_, rfl⟩
                      rw [← hwy] at h1 h2 ⊢
                      clear hwy
                      have HS := Lib.hid (And.intro h1 h2)
                      have HO := Lib.hid (And.intro h3 (And.intro h4 h5))
                      clear h1 h2 h3 h4 h5
                      go_wp2_with fail
                      refine (flines_in HS.out.2.fl).mono ?_
                      rintro e w7 ⟨rfl, g7⟩
                      have HS := Lib.hid (And.intro (HS.out.1.gr0 g7) (HS.out.2.gr0 g7))
                      clear g7
                      have HNL := Lib.hid (show cR C * cL C ≤ 16384 from HOK.out.lines)
                      have HFW := Lib.hid (fun (l : Nat) (hl : l < cR C * cL C) W (q : FPq a r C pb A Rf B j c (64 + 192 * (k + 1)) W) => fwhere_in l q.fl hl)
                      have HRW := Lib.hid (fun (l : Nat) (hl : l < cR C * cL C) W (d : FPd w a r C pb D (200000 + 4300 * (k + 1)) W) (q : FPq a r C pb A Rf B j c (64 + 192 * (k + 1)) W) => rfwhere9 (B := B) (j := j) l q.rf hl d.ref (HO.out.1.on (qi_in HOK.out hl).1) d.mbb.1 (by have := HO.out.2.1 _ (qi_in HOK.out hl).1; have := HK25.out; omega))
                      obtain ⟨NL, hNL⟩ : ∃ NL, NL = cR C * cL C := ⟨_, rfl⟩
                      rw [← hNL] at HNL HFW HRW ⊢
                      clear hNL
                      go_wp2_with fail
                      go_loopw [275] (fun iv wr => ∃ l : Nat, l ≤ NL ∧ iv = .int .i64 (l : Int) ∧ FPd w a r C pb D (200000 + 4300 * (k + 1)) wr ∧ FPq a r C pb A Rf B j c (64 + 192 * (k + 1)) wr) (fun iv _ => NL - (intOf iv).toNat)
                      case atStart => exact ⟨0, by omega, rfl, HS.out.1, HS.out.2⟩
                      case round =>
                        clear HS
                        obtain ⟨l, hl, rfl, h1, h2⟩ := hrel
                        have HS := Lib.hid (And.intro h1 h2)
                        clear h1 h2
                        by_cases hlN : l < NL
                        · as_aux_lemma =>
                            have il : (l : Int) < (NL : Int) := by omega
                            have hN16 := HNL.out
                            have HF1 := Lib.hid (HFW.out l hlN _ HS.out.2)
                            have HR1 := Lib.hid (fun W d q => HRW.out l hlN W d q)
                            have HL1 := Lib.hid (show l + 1 ≤ NL ∧ NL ≤ 16384 by have := HNL.out; omega)
                            generalize (placeP (bankR (regC C (qL C l))) (B (qL C l)) (slotJ (regC C (qL C l)) (j (qL C l)) (iL C l))) = pl at *
                            go_wp2_with fail
                            refine HF1.out.mono ?_
                            rintro e w8 ⟨rfl, g8⟩
                            have HS := Lib.hid (And.intro (HS.out.1.gr0 g8) (HS.out.2.gr0 g8))
                            clear g8 HF1
                            go_wp2_with fail
                            refine (HR1.out _ HS.out.1 HS.out.2).mono ?_
                            rintro e w9 ⟨rfl, g9⟩
                            have HS := Lib.hid (And.intro (HS.out.1.gr0 g9) (HS.out.2.gr0 g9))
                            clear g9 HR1
                            go_wp2_with fail
                            go_roundw
                            case rel => exact ⟨l + 1, HL1.out.1, by go_num, HS.out.1, HS.out.2⟩
                            case measure => simp [intOf]; omega
                        · as_aux_lemma =>
                          obtain rfl : l = NL := by omega
                          have ij : ¬ ((l : Int) < (l : Int)) := by omega
                          clear hlN hl HFW HRW
                          obtain ⟨c0, c1, c2, c3, c4⟩ := fiveP HS.out.1.cfg
                          have HFM := Lib.hid (fun (q : Nat) (hq : q < cR C) W (h : FPq a r C pb A Rf B j c (64 + 192 * (k + 1)) W) => fmoves_in q h.fl hq)
                          have HRS := Lib.hid (fun (q : Nat) (hq : q < cR C) W (d : FPd w a r C pb D (200000 + 4300 * (k + 1)) W) => show Calls Tryz.prog 33 #[.pointer (some ⟨r.rd, 0, none⟩), .agg #[.int .i64 (regC C q).a, .int .i64 ((regC C q).l : Int), .int .i64 (regC C q).s, .int .i64 (regC C q).psi]] W _ from rstate07 (HOK.out.reg hq).1 d.ref (HO.out.1.on hq) d.mbb.1 (by have := HO.out.2.1 _ hq; have := HK25.out; omega))
                          have HRC := Lib.hid (fun (q : Nat) (hq : q < cR C) W (h : FPq a r C pb A Rf B j c (64 + 192 * (k + 1)) W) => show W.cell? ⟨Rf.fb, 5, none⟩ = some (.slice (some ⟨Rf.rb, 0, none⟩) (cR C) Rf.cr) ∧ W.cell? ⟨Rf.rb, q, none⟩ = some (.pointer (some ⟨Rf.rq q, 0, none⟩)) ∧ W.cell? ⟨Rf.rq q, 0, none⟩ = some (.int .i64 (regC C q).a) ∧ W.cell? ⟨Rf.rq q, 1, none⟩ = some (.int .i64 ((regC C q).l : Int)) ∧ W.cell? ⟨Rf.rq q, 2, none⟩ = some (.int .i64 (regC C q).s) ∧ W.cell? ⟨Rf.rq q, 3, none⟩ = some (.int .i64 (regC C q).psi) from ⟨h.rf.head.cell 5, h.rf.rings q hq, (rq_cells (h.rf.rg q hq)).1, (rq_cells (h.rf.rg q hq)).2.1, (rq_cells (h.rf.rg q hq)).2.2.1, (rq_cells (h.rf.rg q hq)).2.2.2⟩)
                          have HR16 := Lib.hid (show cR C ≤ 16 from HOK.out.nums.2.2.2.1)
                          rw [← HOK.out.nums.1] at c0
                          have HJQ := Lib.hid (show ∀ q, q < cR C → j q ≤ 100 from fun q hq => by have := HO.out.2.1 _ hq; have := HK25.out; omega)
                          obtain ⟨RR, hRR⟩ : ∃ RR, RR = cR C := ⟨_, rfl⟩
                          rw [← hRR] at HFM HRS HRC HR16 c0 HJQ
                          clear hRR
                          go_wp2_with fail
                          go_loopw [301] (fun iv wr => ∃ q : Nat, q ≤ RR ∧ iv = .int .i64 (q : Int) ∧ FPd w a r C pb D (200000 + 4300 * (k + 1)) wr ∧ FPq a r C pb A Rf B j c (64 + 192 * (k + 1)) wr) (fun iv _ => RR - (intOf iv).toNat)
                          case atStart => exact ⟨0, by omega, rfl, HS.out.1, HS.out.2⟩
                          case round =>
                            clear HS c0 c1 c2 c3 c4
                            obtain ⟨q, hq, rfl, h1, h2⟩ := hrel
                            have HS := Lib.hid (And.intro h1 h2)
                            clear h1 h2
                            by_cases hqR : q < RR
                            · as_aux_lemma =>
                                have iq : (q : Int) < (RR : Int) := by omega
                                have hR16 := HR16.out
                                have HF1 := Lib.hid (fun W h => HFM.out q hqR W h)
                                have HR1 := Lib.hid (HRS.out q hqR _ HS.out.1)
                                have HL1 := Lib.hid (show q + 1 ≤ RR ∧ RR ≤ 16 by have := HR16.out; omega)
                                obtain ⟨d5, d6, d0, d1, d2, d3⟩ := HRC.out q hqR _ HS.out.2
                                have hjq := HJQ.out q hqR
                                have wjq : IntKind.u64.wrap ((j q : Nat) : Int) = ((j q : Nat) : Int) := IntWalk.u64_in _ (by omega)
                                have hi0 : (0 : Int) ≤ (q : Int) := by omega
                                obtain ⟨jq, hjq2⟩ : ∃ jq, jq = j q := ⟨_, rfl⟩
                                rw [← hjq2] at wjq hjq HR1
                                have HF1 := Lib.hid (show ∀ W, FPq a r C pb A Rf B j c (64 + 192 * (k + 1)) W → Calls Tryz.prog 34 #[.pointer (some ⟨A.fb, 0, none⟩), .int .i64 (q : Int)] W fun e w' => e = .returned (.int .u32 (jq : Int)) ∧ Gr [] W w' from by rw [hjq2]; exact HF1.out)
                                clear hjq2
                                generalize regC C q = P at *
                                generalize Rf.rq q = rq at *
                                go_wp2_with fail
                                refine HR1.out.mono ?_
                                rintro e w8 ⟨rfl, g8⟩
                                have HS := Lib.hid (And.intro (HS.out.1.gr0 g8) (HS.out.2.gr0 g8))
                                clear g8 HR1 d5 d6 d0 d1 d2 d3
                                go_wp2_with fail
                                refine (HF1.out _ HS.out.2).mono ?_
                                rintro e w9 ⟨rfl, g9⟩
                                have HS := Lib.hid (And.intro (HS.out.1.gr0 g9) (HS.out.2.gr0 g9))
                                clear g9 HF1
                                go_wp2_with fail
                                go_roundw
                                case rel => exact ⟨q + 1, HL1.out.1, by go_num, HS.out.1, HS.out.2⟩
                                case measure => simp [intOf]; omega
                            · obtain rfl : q = RR := by omega
                              have ij : ¬ ((q : Int) < (q : Int)) := by omega
                              clear hqR hq HFM HRS HRC
                              have hk25 := HK25.out
                              go_wp2_with fail
                              go_roundw
                              case rel => exact ⟨k + 1, D, B, j, c, A, Rf, HKM.out, by go_num, rfl, rfl, HS.out.1, HS.out.2, HO.out.1, HO.out.2.1, HO.out.2.2⟩
                              case measure => simp [intOf]; omega
          · obtain rfl : k = M := by omega
            have ij : ¬ ((k : Int) < (k : Int)) := by omega
            have HG := Lib.hid HS.out.1.gr
            clear HS HO
            go_wp2_with fail
            go_ret
            exact ⟨rfl, HG.out⟩

theorem walk_FlatPlays (x0 x1 x2 x3 : Int) (x4 : Nat) (v : Value) {w : World} (hx : CfgB x0 x1 x2 x3 x4) (s : SlL w v) :
    Calls Tryz.prog 3 #[.agg #[.int .i64 x0, .int .i64 x1, .int .i64 x2, .int .i64 x3, .int .u64 (x4 : Int)], v] w fun e w' => e = .returned (.bool true) ∧ Below w.heap.size w w' :=
  (fplays9_law x0 x1 x2 x3 x4 v hx.2.2.2.2 s).mono fun _ _ q => ⟨q.1, q.2.below0⟩
end Go.Proofs.YtjbhallhmnahbaaGreat
