/-
  Layer 23: the law's same.
-/
import Derived.Test.YtpkhfdcokcchdaaDesJ
import Derived.Test.YtpkhfdcokcchdaaRegT
import Derived.Laws.StructEq
namespace Go.Proofs.Ytpkhfdcokcchdaa
open Go.RowKit

theorem oeqIn (x1 x2 x3 y1 y2 y3 : Int) (w : World) : (Op.equalIn 10000 122 (.agg #[.int .i64 x1, .int .i64 x2, .int .i64 x3]) (.agg #[.int .i64 y1, .int .i64 y2, .int .i64 y3])).run Try.prog w = .ok (x1 == y1 && (x2 == y2 && x3 == y3)) w := by
  have u3 := Try.underlying3
  have a3 := Try.isAgg3
  have z3 := Try.sizeOf3
  have hS : Try.prog.underlying 122 = some (.struct (Try.prog.fieldsOf 122)) := by kernel_rfl
  have hp : Try.prog.stoodInHeld 122 = false := by kernel_rfl
  rw [show (10000 : Nat) = 9999 + 1 from rfl, run_equalIn_agg w 9999 122 _ _ hS hp]
  simp only [Program.fieldsOf, Try.underlying122]
  go_simp
  by_cases h1 : x1 = y1 <;> by_cases h2 : x2 = y2 <;> by_cases h3 : x3 = y3 <;> simp [h1, h2, h3]
theorem oguard : Try.prog.eqGuardType Try.prog.depth 122 = false := by kernel_rfl

/-! ### Which numbers are open -/
theorem fdL_mem {t : Nat → Int × Int × Int} {i fd : Nat} (h : (fdL t 16)[i]? = some fd) : fd < 16 ∧ (t fd).2.1 ≠ 0 := by
  have := List.mem_of_getElem? h
  unfold fdL at this
  rw [List.mem_filter, List.mem_range] at this
  exact ⟨this.1, by simpa using this.2⟩
theorem fdL_up {t : Nat → Int × Int × Int} {i x y : Nat} (hx : (fdL t 16)[i]? = some x) (hy : (fdL t 16)[i + 1]? = some y) : x < y := by
  have hp : (fdL t 16).Pairwise (· < ·) := by unfold fdL; exact List.pairwise_lt_range.filter _
  obtain ⟨h1, h2⟩ := List.getElem?_eq_some_iff.1 hx
  obtain ⟨h3, h4⟩ := List.getElem?_eq_some_iff.1 hy
  rw [← h2, ← h4]
  exact List.pairwise_iff_getElem.1 hp i (i + 1) h1 h3 (by omega)
theorem cntPT_fd (t : Nat → Int × Int × Int) (j : Nat) : cntPT t (fun _ => true) j = (fdL t j).length := by
  induction j with
  | zero => simp [cntPT, fdL]
  | succ j ih =>
    rw [fdL_succ]
    by_cases h : (t j).2.1 = 0
    · rw [if_pos h]; simp [cntPT, wP, ih, h]
    · rw [if_neg h, List.length_append]; simp [cntPT, wP, ih, h]
theorem cntPT_cnt (t : Nat → Int × Int × Int) (x : Int) (j : Nat) : cntPT t (fun z => z == x) j = cntT t x j := by
  induction j with
  | zero => simp [cntPT, cntT]
  | succ j ih =>
    rw [cntT_succ]
    simp only [cntPT, ih, wP]
    by_cases h : (t j).2.1 ≠ 0 ∧ (t j).1 = x
    · rw [if_pos h, if_pos ⟨h.1, by simpa using h.2⟩]
    · rw [if_neg h, if_neg (fun q => h ⟨q.1, by simpa using q.2⟩)]; omega
theorem cntPD_cnt (D : Nat → Nat → Int × Int × Int) (x : Int) (n : Nat) : cntPD D (fun z => z == x) n = cntD D x n := by
  induction n with
  | zero => rfl
  | succ n ih => simp only [cntPD, cntD, ih, cntPT_cnt]
theorem upd_same : updR = updD := rfl

/-- Both sides' tables. -/
structure DPl (W : World) (bt br bm n : Nat) (D : Nat → Nat → Int × Int × Int) (L : List OpenR) (v : Value) : Prop where
  tabs : Tabs W bt br n D
  rt : RTab W bm n L v
  lis : LIs n D L
  cnt : LCnt n D L
theorem DPl.gr0 {W W' : World} {bt br bm n : Nat} {D : Nat → Nat → Int × Int × Int} {L : List OpenR} {v : Value} (h : DPl W bt br bm n D L v) (g : Gr [] W W') : DPl W' bt br bm n D L v := ⟨h.tabs.gr0 g, h.rt.gr0 g, h.lis, h.cnt⟩
theorem DPl.len {W : World} {bt br bm n : Nat} {D : Nat → Nat → Int × Int × Int} {L : List OpenR} {v : Value} (h : DPl W bt br bm n D L v) : L.length ≤ 128 := by
  rw [h.cnt.len]
  have a := cntPD_le D (fun _ => true) n
  have b := h.tabs.hi
  omega
theorem clients_is (bt br n : Nat) (D : Nat → Nat → Int × Int × Int) (w : World) (h : Tabs w bt br n D) :
    Calls Try.prog 106 #[.pointer (some ⟨bt, 0, none⟩)] w fun e w' => e = .returned (.int .i64 n) ∧ Below w.heap.size w w' :=
  (clients_any bt br n D w h).mono fun _ _ q => ⟨q.1, by rw [← q.2]; exact (Gr.refl [] w).below0⟩

set_option maxHeartbeats 8000000 in
set_option maxRecDepth 20000 in
theorem dsame_any (bt br bm n : Nat) (D : Nat → Nat → Int × Int × Int) (L : List OpenR) (v : Value) (w : World) (h : DPl w bt br bm n D L v) :
    Calls Try.prog 69 #[.pointer (some ⟨bt, 0, none⟩), .pointer (some ⟨bm, 0, none⟩)] w fun e w' => e = .returned (.bool true) ∧ Gr [] w w' := by
  have hn8 := h.tabs.hi
  have hlen := h.len
  have HD := Lib.hid (fun (W : World) (g : Gr [] w W) => h.gr0 g)
  have HS := Lib.hid (show cntPD D (fun _ => true) n = L.length from h.cnt.len.symm)
  have HLI := Lib.hid h.lis
  have heq := oeqIn
  have hgO := fun (W : World) (op : BinOp) (x y : Operand) (xs ys : Array Value) => run_eqGuard_agg (P := Try.prog) (w := W) op 122 x y xs ys oguard
  obtain ⟨ao, cap, hv, hcap, hsome⟩ := own_sh h.rt.row
  subst hv
  obtain ⟨N, hN⟩ : ∃ N, N = L.length := ⟨_, rfl⟩
  rw [← hN] at hlen hcap HS HD
  have HN := Lib.hid hN
  have m0 := kp_cell (h.rt.head.cell 0)
  have hne := kp_ne w
  have P1 := Lib.hid (fun x : Cls (Kp w) => clients_is bt br n D x.w (h.tabs.gr0 (.ofBelow x.h)))
  clear h hN hsome
  go_enter Try.func69, Try.ntmps69
  go_wp2_with fail
  refine wp_region_kp (by kernel_rfl) (by kernel_rfl) ?_
  repeat (go_big_quiet_step ((rename_i x; with_reducible exact kp_call x (P1.out x))))
  with_reducible refine wpQuiet_nil ?_
  rintro _ ⟨y, rfl⟩
  have HG0 := Lib.hid (show Gr [] w y.w from .ofBelow y.h)
  clear P1 m0 hne
  generalize y.w = w0 at *
  clear y
  have m0 := (HD.out _ HG0.out).rt.head.cell 0
  go_wp2_with fail
  clear m0
  go_loopw [5, 26] (fun s i wr => ∃ c : Nat, c ≤ n ∧ i = .int .i64 c ∧ s = .int .i64 (cntPD D (fun _ => true) c) ∧ Gr [] w wr) (fun _ i _ => n - (intOf i).toNat)
  case atStart => exact ⟨0, by omega, rfl, rfl, HG0.out⟩
  case round =>
    clear HG0
    obtain ⟨c, hc, rfl, rfl, G⟩ := hrel
    have HG := Lib.hid G
    clear G
    by_cases hcn : c < n
    · have hcn2 : (c : Int) < (n : Int) := by omega
      have hstep : cntPD D (fun _ => true) (c + 1) = cntPD D (fun _ => true) c + (fdL (D c) 16).length := by simp only [cntPD, cntPT_fd]
      have hb1 := cntPD_le D (fun _ => true) c
      obtain ⟨s1, hs1⟩ : ∃ s1, s1 = cntPD D (fun _ => true) c := ⟨_, rfl⟩
      obtain ⟨s2, hs2⟩ : ∃ s2, s2 = cntPD D (fun _ => true) (c + 1) := ⟨_, rfl⟩
      obtain ⟨K, hK⟩ : ∃ K, K = (fdL (D c) 16).length := ⟨_, rfl⟩
      have hK16 : K ≤ 16 := by rw [hK]; exact fdL_len _ _
      rw [← hs1, ← hs2, ← hK] at hstep
      rw [← hs1] at hb1 ⊢
      have hsi : (s1 : Int) + (K : Int) = (s2 : Int) := by omega
      have HS2 := Lib.hid hs2
      have HK := Lib.hid hK
      clear hs1 hs2 hstep hK
      go_wp2_with fail
      refine (list_ok bt br n c D _ (HD.out _ HG.out).tabs hcn).mono ?_
      rintro e w5 ⟨u, rfl, ho, g5⟩
      obtain ⟨aL, cL, hu, hcL, hsL⟩ := own_sh ho
      subst hu
      rw [← HK.out] at ho hcL hsL ⊢
      have H5 := Lib.hid (And.intro ho (And.intro hsL (HG.out.next0 g5)))
      clear ho hsL g5
      go_wp2_with fail
      go_loopw [38] (fun i wr => ∃ q : Nat, q ≤ K ∧ i = .int .i64 q ∧ Gr [] w5 wr) (fun i _ => K - (intOf i).toNat)
      case atStart => exact ⟨0, by omega, rfl, Gr.refl _ _⟩
      case round =>
        obtain ⟨q, hq, rfl, G⟩ := hrel
        have HGQ := Lib.hid (H5.out.2.2.next0 G)
        have HOQ := Lib.hid (own_gr0 H5.out.1 G)
        have HGR := Lib.hid G
        clear G
        by_cases hqK : q < K
        · have hqK2 : (q : Int) < (K : Int) := by omega
          obtain ⟨gL, hgL⟩ := H5.out.2.1 (by omega)
          subst hgL
          obtain ⟨fd, hfd⟩ : ∃ fd, (fdL (D c) 16)[q]? = some fd := ⟨_, List.getElem?_eq_getElem (by have := HK.out; omega)⟩
          obtain ⟨hf16, hfl⟩ := fdL_mem hfd
          have x0 : wr.cell? ⟨gL, q, none⟩ = some (.int .i64 (fd : Int)) := by
            rw [HOQ.out.cellAt q (by omega), List.getElem?_map, hfd]; rfl
          have HPV := Lib.hid (show q = 0 ∨ ∃ p fp : Nat, p + 1 = q ∧ fp < fd ∧ ∀ W, Gr [] wr W → W.cell? ⟨gL, p, none⟩ = some (.int .i64 (fp : Int)) from by
            by_cases h0 : q = 0
            · exact .inl h0
            · right
              obtain ⟨p, rfl⟩ : ∃ p, p + 1 = q := ⟨q - 1, by omega⟩
              obtain ⟨fp, hfp⟩ : ∃ fp, (fdL (D c) 16)[p]? = some fp := ⟨_, List.getElem?_eq_getElem (by have := HK.out; omega)⟩
              refine ⟨p, fp, rfl, fdL_up hfp hfd, fun W g => ?_⟩
              rw [(own_gr0 HOQ.out g).cellAt p (by omega), List.getElem?_map, hfp]; rfl)
          obtain ⟨k, x, hk, hx, hxc, hxf, hDx⟩ := HLI.out.found hcn hf16 hfl
          have HGET := Lib.hid (fun W g => get_ok bt br n c fd D W (HD.out W g).tabs hcn hf16 hfl)
          rw [hDx] at HGET
          have HFND := Lib.hid (fun W g => rfind_some bm n k L _ c fd W (HD.out W g).rt ⟨by omega, by omega⟩ (by have := HN.out; omega) hk)
          have HXK := Lib.hid hx
          clear hfd hfl hk hx hxc hxf hDx
          go_wp2_with fail
          refine (HGET.out _ HGQ.out).mono ?_
          rintro e w6 ⟨rfl, g6⟩
          have HX6 := Lib.hid (Holds.new w6 #[.int .i64 x.n, .int .i64 x.g, .int .i64 x.a] 122)
          have HG6 := Lib.hid (g6.alloc (Obj.cells #[.int .i64 x.n, .int .i64 x.g, .int .i64 x.a] 122))
          clear g6 x0
          go_wp2_with fail
          generalize w6.alloc (Obj.cells #[.int .i64 x.n, .int .i64 x.g, .int .i64 x.a] 122) = w7 at *
          obtain ⟨b6, hb6⟩ : ∃ b, w6.heap.size = b := ⟨_, rfl⟩
          rw [hb6] at HX6 ⊢
          clear hb6
          refine (HFND.out _ (HGQ.out.next0 HG6.out)).mono ?_
          rintro e w8 ⟨rfl, g8⟩
          have HX8 := Lib.hid (HX6.out.gr0 g8)
          have HG8 := Lib.hid (HG6.out.next0 g8)
          clear g8 HX6 HG6
          obtain ⟨g', cp', hv, -, -, -, z0, z1, z2, z3, z4⟩ := (HD.out _ (HGQ.out.next0 HG8.out)).rt.at HXK.out
          rw [← HN.out] at hv
          injection hv with e1 e2 e3
          subst e1 e3
          have m1 := (HD.out _ (HGQ.out.next0 HG8.out)).rt.head.cell 1
          have hkN : k < N := by rw [HN.out]; exact (List.getElem?_eq_some_iff.1 HXK.out).1
          clear e2
          have HY8 := Lib.hid (Holds.new w8 #[.int .i64 x.c, .int .i64 x.f, .int .i64 x.n, .int .i64 x.g, .int .i64 x.a] 127)
          have HX9 := Lib.hid (HX8.out.gr0 ((Gr.refl [] w8).alloc (Obj.cells #[.int .i64 x.c, .int .i64 x.f, .int .i64 x.n, .int .i64 x.g, .int .i64 x.a] 127)))
          have u0 : (w8.alloc (Obj.cells #[.int .i64 x.c, .int .i64 x.f, .int .i64 x.n, .int .i64 x.g, .int .i64 x.a] 127)).cell? ⟨b6, 0, none⟩ = some (.int .i64 x.n) := HX9.out.cell 0
          have u1 : (w8.alloc (Obj.cells #[.int .i64 x.c, .int .i64 x.f, .int .i64 x.n, .int .i64 x.g, .int .i64 x.a] 127)).cell? ⟨b6, 1, none⟩ = some (.int .i64 x.g) := HX9.out.cell 1
          have u2 : (w8.alloc (Obj.cells #[.int .i64 x.c, .int .i64 x.f, .int .i64 x.n, .int .i64 x.g, .int .i64 x.a] 127)).cell? ⟨b6, 2, none⟩ = some (.int .i64 x.a) := HX9.out.cell 2
          have t2 : (w8.alloc (Obj.cells #[.int .i64 x.c, .int .i64 x.f, .int .i64 x.n, .int .i64 x.g, .int .i64 x.a] 127)).cell? ⟨w8.heap.size, 2, none⟩ = some (.int .i64 x.n) := HY8.out.cell 2
          have t3 : (w8.alloc (Obj.cells #[.int .i64 x.c, .int .i64 x.f, .int .i64 x.n, .int .i64 x.g, .int .i64 x.a] 127)).cell? ⟨w8.heap.size, 3, none⟩ = some (.int .i64 x.g) := HY8.out.cell 3
          have t4 : (w8.alloc (Obj.cells #[.int .i64 x.c, .int .i64 x.f, .int .i64 x.n, .int .i64 x.g, .int .i64 x.a] 127)).cell? ⟨w8.heap.size, 4, none⟩ = some (.int .i64 x.a) := HY8.out.cell 4
          have HGF := Lib.hid (HG8.out.alloc (Obj.cells #[.int .i64 x.c, .int .i64 x.f, .int .i64 x.n, .int .i64 x.g, .int .i64 x.a] 127))
          clear HX8
          rcases HPV.out with h0 | ⟨p, fp, hp, hlt, hcell⟩
          · subst h0
            go_wp2_with fail
            go_roundw
            case rel => exact ⟨1, by omega, by first | rfl | go_num, HGR.out.next0 HGF.out⟩
            case measure => simp [intOf]; omega
          · have v0 := hcell _ HG8.out
            have hlt2 : ¬ (fd : Int) ≤ (fp : Int) := by omega
            have hp2 : (q : Int) - 1 = (p : Int) := by omega
            have hq0 : (0 : Int) < (q : Int) := by omega
            have hpK : p < K := by omega
            have HP := Lib.hid hp
            clear hp hcell
            go_wp2_with fail
            go_roundw
            case rel => exact ⟨q + 1, by omega, by go_num, HGR.out.next0 HGF.out⟩
            case measure => simp [intOf]; omega
        · obtain rfl : q = K := by omega
          go_wp2_with fail
          go_roundw
          case rel => exact ⟨c + 1, by omega, by go_num, by rw [HS2.out], HGQ.out⟩
          case measure => simp [intOf]; omega
    · obtain rfl : c = n := by omega
      rw [HS.out]
      have m1 := (HD.out _ HG.out).rt.head.cell 1
      go_wp2_with fail
      refine (list_no bt br c (-1) D _ (HD.out _ HG.out).tabs (.inl (by omega))).mono ?_
      rintro e w6 ⟨rfl, rfl⟩
      have m0 := (HD.out _ HG.out).rt.head.cell 0
      go_wp2_with fail
      refine (list_no bt br c (c : Int) D _ (HD.out _ HG.out).tabs (.inr (by omega))).mono ?_
      rintro e w6 ⟨rfl, rfl⟩
      go_wp2_with fail
      go_ret
      exact ⟨rfl, HG.out⟩

end Go.Proofs.Ytpkhfdcokcchdaa
