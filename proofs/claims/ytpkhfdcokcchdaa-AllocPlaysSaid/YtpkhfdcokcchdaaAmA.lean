/-
  Layer 14: AllocPlays, walked.
-/
import Derived.Test.YtpkhfdcokcchdaaAlZ
import Derived.Deep.CutBlock
import Derived.Deep.DeepCutAuto
namespace Go.Proofs.Ytpkhfdcokcchdaa
open Go.RowKit

/-- What stands when an act is done. -/
def ActDone (wr wz : World) (bt N : Nat) (f nx g : Value) : Prop := Gr [] wr wz ∧
  ((∃ c : Nat, Hid (c ≠ 0) ∧ f = .int .i64 c ∧ g = .int .i64 c ∧ Holds wz bt #[.int .i64 0, .slice none 0 0] 25) ∨
   ∃ (l' : List (Nat × Nat)) (L' : Nat) (m' : Nat → Bool) (ao' na : Option Addr) (cap' nc : Nat), f = .int .i64 0 ∧ g = .int .i64 0 ∧ nx = .slice na N nc ∧ N ≤ nc ∧ L' = l'.length ∧ l' = extP m' N ∧ Holds wz bt #[.int .i64 N, .slice ao' L' cap'] 25 ∧ SetIs wz N l' ao' cap' ∧ RdM wz na N m')
theorem mades (N : Nat) : (madeCells (Value.cells (.bool false)) (N * 1)).toList = cellsM (fun b => decide (b < 0)) N := by
  rw [made_one _ rfl]
  apply List.ext_getElem?
  intro j
  by_cases hj : j < N
  · rw [cellsM_get _ _ _ hj, List.getElem?_replicate, if_pos hj]; simp
  · rw [List.getElem?_eq_none (by simp; omega), List.getElem?_eq_none (by rw [cellsM_len]; omega)]
theorem cellsM_up (N k : Nat) : (cellsM (fun b => decide (b < k)) N).set k (.bool true) = cellsM (fun b => decide (b < k + 1)) N := by
  rw [cellsM_set]
  refine cellsM_congr fun b _ => ?_
  by_cases h : b = k
  · rw [if_pos h, decide_eq_true (by omega)]
  · rw [if_neg h, decide_eq_decide]; omega
theorem grown_none {w w' : World} (h : w.grownBy w' none) : Gr [] w w' := by simpa using gr_grown h
theorem put2 {W : World} {bt : Nat} {x y x' y' : Value} {t : TypeId} (h : Holds W bt #[x, y] t) : Holds ((W.setCell ⟨bt, 0, none⟩ x').setCell ⟨bt, 1, none⟩ y') bt #[x', y'] t := (h.set 0 _).set 1 _
theorem minIsA (P : Program) (L m k : Nat) (kI : Int) (hk : kI = k) (h : m = min L k) (ts : Array TypeId) (t : TypeId) (w : World) : (Builtin.min_ ts t #[.int .i64 (L : Int), .int .i64 kI]).run P w = .ok (.int .i64 (m : Int)) w := by
  subst hk
  rw [run_min_int2]
  have : (if (k : Int) < (L : Int) then (k : Int) else (L : Int)) = (m : Int) := by split <;> omega
  rw [this]

/-- An act's variables. -/
structure ABx (wr W : World) (b7 N : Nat) (d x n : Int) (q : Int) (sa : Option Addr) (sn sk : Nat) (ma : Option Addr) (m : Nat → Bool) : Prop where
  a : Holds W b7 #[.int .i64 d, .int .i64 x, .int .i64 n] 33
  e : Holds W (b7 + 1) #[.int .i64 x, .int .i64 n] 35
  t : Holds W (b7 + 1 + 1) #[.int .i64 q, .slice sa sn sk] 25
  mm : RdM W ma N m
  gr : Gr [] wr W
  lo : wr.heap.size ≤ b7
theorem ABx.gr0 {wr W W' : World} {b7 N : Nat} {d x n q : Int} {sa : Option Addr} {sn sk : Nat} {ma : Option Addr} {m : Nat → Bool} (h : ABx wr W b7 N d x n q sa sn sk ma m) (g : Gr [] W W') : ABx wr W' b7 N d x n q sa sn sk ma m := ⟨h.a.gr0 g, h.e.gr0 g, h.t.gr0 g, h.mm.gr0 g, h.gr.next0 g, h.lo⟩
theorem grP (W : World) (bt : Nat) (x y : Value) : Gr [bt] W ((W.setCell ⟨bt, 0, none⟩ x).setCell ⟨bt, 1, none⟩ y) := ((Gr.refl _ _).setCell (p := ⟨bt, 0, none⟩) (.inl (by simp)) _).setCell (p := ⟨bt, 1, none⟩) (.inl (by simp)) _
theorem ABx.put {wr W : World} {b7 N : Nat} {d x n q : Int} {sa : Option Addr} {sn sk : Nat} {ma : Option Addr} {m : Nat → Bool} (h : ABx wr W b7 N d x n q sa sn sk ma m) (q' : Int) (sa' : Option Addr) (sn' sk' : Nat) : ABx wr ((W.setCell ⟨b7 + 1 + 1, 0, none⟩ (.int .i64 q')).setCell ⟨b7 + 1 + 1, 1, none⟩ (.slice sa' sn' sk')) b7 N d x n q' sa' sn' sk' ma m := by
  have g := grP W (b7 + 1 + 1) (.int .i64 q') (.slice sa' sn' sk')
  exact ⟨h.a.gr g (by simp; omega), h.e.gr g (by simp), put2 h.t, h.mm.grB g (rdM_far h.t h.mm), h.gr.nextN g (fun x hx => by simp at hx; subst hx; exact .inr (by have := h.lo; omega)), h.lo⟩

set_option maxRecDepth 100000 in
set_option maxHeartbeats 16000000 in
theorem aplays_none (az : Int) (aO : Option Addr) (acap : Nat) (w : World) (hO : aO = none → acap = 0) (hmax : acap ≤ maxLen) :
    Calls Try.prog 3 #[.int .i64 az, .slice aO 0 acap] w fun e w' => e = .returned (.bool true) ∧ Gr [] w w' := by
  have hmn := minIsA Try.prog 0 0 50 50 rfl rfl
  unfold maxLen at hmax
  obtain ⟨i0, hi0, hz0, hz1, hz2⟩ := info_parts infoBo
  have hmx := max0 Try.prog
  obtain ⟨N, hN, hN40⟩ : ∃ N : Nat, mx az % 40 = (N : Int) ∧ N < 40 := ⟨(mx az % 40).toNat, by have := mx_nonneg az; omega, by have := mx_nonneg az; omega⟩
  have hn0 := mx_nonneg az
  go_enter Try.func3, Try.ntmps3
  go_wp2_with fail
  refine (anew_yes N _ (by omega)).mono ?_
  rintro e w1 ⟨ao, cap, l, rfl, s1, hcov, g1⟩
  have hle : l = extP (fun _ => true) N := extP_is s1.runs (fun b hb => by rw [hcov, decide_eq_true hb])
  have H1 := Lib.hid (And.intro s1 (And.intro hle g1))
  obtain ⟨L, hL⟩ : ∃ L, L = l.length := ⟨_, rfl⟩
  rw [← hL]
  have HL := Lib.hid hL
  clear s1 hcov hle g1 hL hmx hn0
  have HB1 := Lib.hid (Holds.new w1 #[.int .i64 N, .slice ao L cap] 25)
  have HG1 := Lib.hid ((Gr.refl [] w1).alloc (Obj.cells #[.int .i64 N, .slice ao L cap] 25))
  have HSZ := Lib.hid (show (w1.alloc (Obj.cells #[.int .i64 N, .slice ao L cap] 25)).heap.size = w1.heap.size + 1 from World.size_alloc _ _)
  go_wp2_with (refine wpList_make_full _ rfl _ _ 29 rfl (w1.heap.size + 1) 4 i0 (.bool false) 1 Try.underlying29 hi0 hz0 hz1 .i64 .i64 _ _ N rfl rfl rfl rfl (by rw [hz2]; omega) (by unfold maxLen; omega) (by rw [World.size_alloc]; exact Nat.le_refl _) ?_; intro wm hown hgrow)
  rw [mades] at hown
  have hgw := grown_none hgrow
  rw [HSZ.out] at hown
  try rw [HSZ.out]
  obtain ⟨Bs, hBs⟩ : ∃ B, w1.heap.size = B := ⟨_, rfl⟩
  generalize w1.alloc (Obj.cells #[.int .i64 N, .slice ao L cap] 25) = wx at *
  rw [hBs] at hown HB1 HSZ ⊢
  have HBS := Lib.hid hBs
  have H2 := Lib.hid (And.intro hown hgw)
  clear hBs hown hgrow hgw
  go_wp2_with fail
  go_loopw [31] (fun i wr => ∃ k : Nat, k ≤ N ∧ i = .int .i64 k ∧ wr.ownsRow (Bs + 1) 4 1 (.slice (some ⟨Bs + 1, 0, none⟩) N N) N (cellsM (fun b => decide (b < k)) N) ∧ Gr [] wx wr) (fun i _ => N - (intOf i).toNat)
  case atStart => exact ⟨0, by omega, rfl, H2.out.1, H2.out.2⟩
  case round =>
  clear H2
  obtain ⟨k, hk, rfl, ho, G⟩ := hrel
  by_cases hkN : k < N
  · have hkN2 : (k : Int) < (N : Int) := by omega
    have c1 := ho.cellAt k (by omega)
    rw [cellsM_get _ _ _ hkN] at c1
    have f1 := ho.frozenAt k
    have hst := (ho.stored k (.bool true)).1
    rw [cellsM_up] at hst
    have HR := Lib.hid (And.intro hst (G.setCell (p := ⟨Bs + 1, k, none⟩) (.inr (by simp only; have := HSZ.out; omega)) (.bool true)))
    clear hst G ho
    go_wp2_with fail
    go_roundw
    case rel => exact ⟨k + 1, by omega, by simp, HR.out.1, HR.out.2⟩
    case measure => simp [intOf]; omega
  obtain rfl : k = N := by omega
  have HP := Lib.hid (show APl w wr Bs k L l (fun _ => true) ao (some ⟨Bs + 1, 0, none⟩) cap k from ⟨HB1.out.gr0 G, H1.out.1.gr0 (HG1.out.next0 G), (own_rdM ho).congr (fun b hb => by simp [hb]), Nat.le_refl _, HL.out, H1.out.2.1, (H1.out.2.2.next0 HG1.out).next0 G, by rw [← HBS.out]; exact H1.out.2.2.size⟩)
  clear ho G HB1 HG1 H1 HL HSZ HBS
  go_wp2_with fail
  refine (wakes14_any _).mono ?_
  rintro e w3 ⟨rfl, g3⟩
  have HP3 := Lib.hid (HP.out.gr0 g3)
  have c0 := HP3.out.box.cell 0
  have c1 := HP3.out.box.cell 1
  clear HP g3
  go_wp2_with fail
  refine (asame_any k L l (fun _ => true) ao (some ⟨Bs + 1, 0, none⟩) cap k w3 HP3.out.set HP3.out.mm HP3.out.eqv HP3.out.len).mono ?_
  rintro e w4 ⟨rfl, g4⟩
  have HP4 := Lib.hid (HP3.out.gr0 g4)
  clear HP3 g4 c0 c1
  obtain ⟨N, hNN⟩ : ∃ N, N = k := ⟨_, rfl⟩
  rw [← hNN] at HP4 hN40 ⊢
  clear hNN
  cases aO with
  | none =>
    obtain rfl := hO rfl
    go_wp2_with fail
    go_loopw [56] (fun i wr => i = .int .i64 0 ∧ Gr [] w wr) (fun i _ => 0)
    case atStart => exact ⟨rfl, HP4.out.gr⟩
    case round =>
      clear HP4
      obtain ⟨rfl, G⟩ := hrel
      go_wp2_with fail
      go_ret
      exact ⟨rfl, G⟩
  | some ad =>
    go_wp2_with fail
    go_loopw [56] (fun i wr => i = .int .i64 0 ∧ Gr [] w wr) (fun i _ => 0)
    case atStart => exact ⟨rfl, HP4.out.gr⟩
    case round =>
      clear HP4
      obtain ⟨rfl, G⟩ := hrel
      go_wp2_with fail
      go_ret
      exact ⟨rfl, G⟩

set_option maxRecDepth 100000 in
set_option maxHeartbeats 32000000 in
theorem aplays_some (az : Int) (ab aoff AL acap : Nat) (fs : Nat → Nat → Int) (w : World) (hcap : AL ≤ acap) (hmax : acap ≤ maxLen) (hab : ab < w.heap.size)
    (hx : ∀ i, i < AL → ∀ j, j < 3 → w.cell? ⟨ab, aoff + i * 3 + j, none⟩ = some (.int .i64 (fs i j)) ∧ (-9223372036854775808 ≤ fs i j ∧ fs i j ≤ 9223372036854775807)) :
    Calls Try.prog 3 #[.int .i64 az, .slice (some ⟨ab, aoff, none⟩) AL acap] w fun e w' => e = .returned (.bool true) ∧ Gr [] w w' := by
  obtain ⟨M, hM⟩ : ∃ M, M = min AL 50 := ⟨_, rfl⟩
  have hmn := minIsA Try.prog AL M 50 50 rfl hM
  have hM1 : M ≤ AL := by omega
  have hM2 : M ≤ 50 := by omega
  have HX := Lib.hid hx
  unfold maxLen at hmax
  clear hx hM
  obtain ⟨i0, hi0, hz0, hz1, hz2⟩ := info_parts infoBo
  have hmx := max0 Try.prog
  obtain ⟨N, hN, hN40⟩ : ∃ N : Nat, mx az % 40 = (N : Int) ∧ N < 40 := ⟨(mx az % 40).toNat, by have := mx_nonneg az; omega, by have := mx_nonneg az; omega⟩
  have hn0 := mx_nonneg az
  go_enter Try.func3, Try.ntmps3
  go_wp2_with fail
  refine (anew_yes N _ (by omega)).mono ?_
  rintro e w1 ⟨ao, cap, l, rfl, s1, hcov, g1⟩
  have hle : l = extP (fun _ => true) N := extP_is s1.runs (fun b hb => by rw [hcov, decide_eq_true hb])
  have H1 := Lib.hid (And.intro s1 (And.intro hle g1))
  obtain ⟨L, hL⟩ : ∃ L, L = l.length := ⟨_, rfl⟩
  rw [← hL]
  have HL := Lib.hid hL
  clear s1 hcov hle g1 hL hmx hn0
  have HB1 := Lib.hid (Holds.new w1 #[.int .i64 N, .slice ao L cap] 25)
  have HG1 := Lib.hid ((Gr.refl [] w1).alloc (Obj.cells #[.int .i64 N, .slice ao L cap] 25))
  have HSZ := Lib.hid (show (w1.alloc (Obj.cells #[.int .i64 N, .slice ao L cap] 25)).heap.size = w1.heap.size + 1 from World.size_alloc _ _)
  go_wp2_with (refine wpList_make_full _ rfl _ _ 29 rfl (w1.heap.size + 1) 4 i0 (.bool false) 1 Try.underlying29 hi0 hz0 hz1 .i64 .i64 _ _ N rfl rfl rfl rfl (by rw [hz2]; omega) (by unfold maxLen; omega) (by rw [World.size_alloc]; exact Nat.le_refl _) ?_; intro wm hown hgrow)
  rw [mades] at hown
  have hgw := grown_none hgrow
  rw [HSZ.out] at hown
  try rw [HSZ.out]
  obtain ⟨Bs, hBs⟩ : ∃ B, w1.heap.size = B := ⟨_, rfl⟩
  generalize w1.alloc (Obj.cells #[.int .i64 N, .slice ao L cap] 25) = wx at *
  rw [hBs] at hown HB1 HSZ ⊢
  have HBS := Lib.hid hBs
  have H2 := Lib.hid (And.intro hown hgw)
  clear hBs hown hgrow hgw
  go_wp2_with fail
  go_loopw [31] (fun i wr => ∃ k : Nat, k ≤ N ∧ i = .int .i64 k ∧ wr.ownsRow (Bs + 1) 4 1 (.slice (some ⟨Bs + 1, 0, none⟩) N N) N (cellsM (fun b => decide (b < k)) N) ∧ Gr [] wx wr) (fun i _ => N - (intOf i).toNat)
  case atStart => exact ⟨0, by omega, rfl, H2.out.1, H2.out.2⟩
  case round =>
  clear H2
  obtain ⟨k, hk, rfl, ho, G⟩ := hrel
  by_cases hkN : k < N
  · have hkN2 : (k : Int) < (N : Int) := by omega
    have c1 := ho.cellAt k (by omega)
    rw [cellsM_get _ _ _ hkN] at c1
    have f1 := ho.frozenAt k
    have hst := (ho.stored k (.bool true)).1
    rw [cellsM_up] at hst
    have HR := Lib.hid (And.intro hst (G.setCell (p := ⟨Bs + 1, k, none⟩) (.inr (by simp only; have := HSZ.out; omega)) (.bool true)))
    clear hst G ho
    go_wp2_with fail
    go_roundw
    case rel => exact ⟨k + 1, by omega, by simp, HR.out.1, HR.out.2⟩
    case measure => simp [intOf]; omega
  obtain rfl : k = N := by omega
  have HP := Lib.hid (show APl w wr Bs k L l (fun _ => true) ao (some ⟨Bs + 1, 0, none⟩) cap k from ⟨HB1.out.gr0 G, H1.out.1.gr0 (HG1.out.next0 G), (own_rdM ho).congr (fun b hb => by simp [hb]), Nat.le_refl _, HL.out, H1.out.2.1, (H1.out.2.2.next0 HG1.out).next0 G, by rw [← HBS.out]; exact H1.out.2.2.size⟩)
  clear ho G HB1 HG1 H1 HL HSZ HBS
  go_wp2_with fail
  refine (wakes14_any _).mono ?_
  rintro e w3 ⟨rfl, g3⟩
  have HP3 := Lib.hid (HP.out.gr0 g3)
  have c0 := HP3.out.box.cell 0
  have c1 := HP3.out.box.cell 1
  clear HP g3
  go_wp2_with fail
  refine (asame_any k L l (fun _ => true) ao (some ⟨Bs + 1, 0, none⟩) cap k w3 HP3.out.set HP3.out.mm HP3.out.eqv HP3.out.len).mono ?_
  rintro e w4 ⟨rfl, g4⟩
  have HP4 := Lib.hid (HP3.out.gr0 g4)
  clear HP3 g4 c0 c1
  obtain ⟨N, hNN⟩ : ∃ N, N = k := ⟨_, rfl⟩
  rw [← hNN] at HP4 hN40 ⊢
  clear hNN
  go_wp2_with fail
  clear hmn
  go_loopw [7, 56] (fun mv i wr => ∃ (k L : Nat) (l : List (Nat × Nat)) (m : Nat → Bool) (ao ma : Option Addr) (cap mc : Nat), k ≤ M ∧ i = .int .i64 k ∧ mv = .slice ma N mc ∧ APl w wr Bs N L l m ao ma cap mc) (fun _ i _ => M - (intOf i).toNat)
  case atStart => exact ⟨0, _, _, _, _, _, _, _, by omega, rfl, rfl, HP4.out⟩
  case round =>
    clear HP4 
    obtain ⟨k, L, l, m, ao, ma, cap, mc, hk, rfl, rfl, hP⟩ := hrel
    have HP := Lib.hid hP
    clear hP
    by_cases hkM : k < M
    · have hkM2 : (k : Int) < (M : Int) := by omega
      obtain ⟨d, hd⟩ : ∃ d, d = fs k 0 := ⟨_, rfl⟩
      obtain ⟨x, hx⟩ : ∃ x, x = fs k 1 := ⟨_, rfl⟩
      obtain ⟨n, hn⟩ : ∃ n, n = fs k 2 := ⟨_, rfl⟩
      have y0 := HX.out k (by omega) 0 (by omega)
      have y1 := HX.out k (by omega) 1 (by omega)
      have y2 := HX.out k (by omega) 2 (by omega)
      rw [← hd, Nat.add_zero] at y0
      rw [← hx] at y1
      rw [← hn] at y2
      have e0 : wr.cell? ⟨ab, aoff + k * 3, none⟩ = some (.int .i64 d) := (HP.out.gr.cell0 hab).trans y0.1
      have e1 : wr.cell? ⟨ab, aoff + k * 3 + 1, none⟩ = some (.int .i64 x) := (HP.out.gr.cell0 hab).trans y1.1
      have e2 : wr.cell? ⟨ab, aoff + k * 3 + 2, none⟩ = some (.int .i64 n) := (HP.out.gr.cell0 hab).trans y2.1
      have hn63 : n ≤ 9223372036854775807 := y2.2.2
      have HN63 := Lib.hid hn63
      clear y0 y1 y2 hd hx hn hn63
      have hmx := max0 Try.prog
      have hd0 := mx_nonneg d
      have hs : mx d % 3 = 0 ∨ mx d % 3 = 1 ∨ mx d % 3 = 2 := by omega
      have X := Holds.new wr #[.int .i64 d, .int .i64 x, .int .i64 n] 33
      have x0 : (wr.alloc (Obj.cells #[.int .i64 d, .int .i64 x, .int .i64 n] 33)).cell? ⟨wr.heap.size, 0, none⟩ = some (.int .i64 d) := X.cell 0
      have x1 : (wr.alloc (Obj.cells #[.int .i64 d, .int .i64 x, .int .i64 n] 33)).cell? ⟨wr.heap.size, 1, none⟩ = some (.int .i64 x) := X.cell 1
      have x2 : (wr.alloc (Obj.cells #[.int .i64 d, .int .i64 x, .int .i64 n] 33)).cell? ⟨wr.heap.size, 2, none⟩ = some (.int .i64 n) := X.cell 2
      have HA := Lib.hid (show ABx wr (((wr.alloc (Obj.cells #[.int .i64 d, .int .i64 x, .int .i64 n] 33)).alloc (Obj.cells #[.int .i64 x, .int .i64 n] 35)).alloc (Obj.cells #[.int .i64 0, .slice none 0 0] 25)) wr.heap.size N d x n 0 none 0 0 ma m from by
        have g := (((Gr.refl [] wr).alloc (Obj.cells #[.int .i64 d, .int .i64 x, .int .i64 n] 33)).alloc (Obj.cells #[.int .i64 x, .int .i64 n] 35)).alloc (Obj.cells #[.int .i64 0, .slice none 0 0] 25)
        refine ⟨(X.alloc _).alloc _, ?_, ?_, HP.out.mm.gr0 g, g, Nat.le_refl _⟩
        · have := (Holds.new (wr.alloc (Obj.cells #[.int .i64 d, .int .i64 x, .int .i64 n] 33)) #[.int .i64 x, .int .i64 n] 35).alloc (Obj.cells #[.int .i64 0, .slice none 0 0] 25)
          rwa [World.size_alloc] at this
        · have := Holds.new ((wr.alloc (Obj.cells #[.int .i64 d, .int .i64 x, .int .i64 n] 33)).alloc (Obj.cells #[.int .i64 x, .int .i64 n] 35)) #[.int .i64 0, .slice none 0 0] 25
          rwa [World.size_alloc, World.size_alloc] at this)
      clear X
      have HXL := Lib.hid (show (wr.alloc (Obj.cells #[.int .i64 d, .int .i64 x, .int .i64 n] 33)).heap.size = wr.heap.size + 1 from World.size_alloc _ _)
      have k0 := HA.out.a.cell 0
      go_upto_block 4 with fail
      clear e0 e1 e2 x0 x1 x2 HXL
      generalize ((wr.alloc (Obj.cells #[.int .i64 d, .int .i64 x, .int .i64 n] 33)).alloc (Obj.cells #[.int .i64 x, .int .i64 n] 35)).alloc (Obj.cells #[.int .i64 0, .slice none 0 0] 25) = wa at *
      generalize wr.heap.size = b7 at *
      generalize mx d % 3 = sw at *
      go_cut [13, 14, 15] (fun f nx g wz => ActDone wr wz (b7 + 1 + 1) N f nx g)
      case first =>
        rcases hs with rfl | rfl | rfl
        · as_aux_lemma =>
            rcases use_both N m l L x n HP.out.set.runs HP.out.eqv HP.out.len (by omega) with ⟨g, hg, HU, HR⟩ | ⟨l', L', m', hL', he', HU, HR⟩
            · have HUU := Lib.hid HU
              have HRR := Lib.hid HR
              have HGG := Lib.hid hg
              have HPA := Lib.hid (HP.out.gr0 HA.out.gr)
              have c0 := HPA.out.box.cell 0
              have c1 := HPA.out.box.cell 1
              have a1 := HA.out.e.cell 0
              have a2 := HA.out.e.cell 1
              clear HU HR hg
              go_wp2_with fail
              clear hmx
              refine (HUU.out _ _ _ HPA.out.set).mono ?_
              rintro e w5 ⟨rfl, g5⟩
              have HA5 := Lib.hid (HA.out.gr0 g5)
              clear g5 c0 c1 a1 a2 k0
              have t0 := HA5.out.t.cell 0
              have t1 := HA5.out.t.cell 1
              have f0 := HA5.out.t.frozen 0
              have f1 := HA5.out.t.frozen 1
              have a1 := HA5.out.a.cell 1
              have a2 := HA5.out.a.cell 2
              go_wp2_with fail
              refine (HRR.out _ _ _ (HA5.out.put 0 none 0 0).mm HPA.out.hmc).mono ?_
              rintro e w6 ⟨rfl, g6⟩
              have HA6 := Lib.hid ((HA5.out.put 0 none 0 0).gr0 g6)
              clear g6 t0 t1 f0 f1 a1 a2 HA5
              go_wp2_with fail
              skip
              go_meet
              exact ⟨HA6.out.gr, .inl ⟨g, HGG, rfl, rfl, HA6.out.t⟩⟩
            · have HUU := Lib.hid HU
              have HRR := Lib.hid HR
              have HPA := Lib.hid (HP.out.gr0 HA.out.gr)
              have HEE := Lib.hid (And.intro hL' he')
              have c0 := HPA.out.box.cell 0
              have c1 := HPA.out.box.cell 1
              have a1 := HA.out.e.cell 0
              have a2 := HA.out.e.cell 1
              clear HU HR hL' he'
              go_wp2_with fail
              clear hmx
              refine (HUU.out _ _ _ HPA.out.set).mono ?_
              rintro e w5 ⟨ao', cap', rfl, hs5, g5⟩
              have HA5 := Lib.hid (HA.out.gr0 g5)
              have HS5 := Lib.hid hs5
              clear g5 hs5 c0 c1 a1 a2 k0
              have t0 := HA5.out.t.cell 0
              have t1 := HA5.out.t.cell 1
              have f0 := HA5.out.t.frozen 0
              have f1 := HA5.out.t.frozen 1
              have a1 := HA5.out.a.cell 1
              have a2 := HA5.out.a.cell 2
              go_wp2_with fail
              refine (HRR.out _ _ _ (HA5.out.put N ao' L' cap').mm HPA.out.hmc).mono ?_
              rintro e w6 ⟨na, nc, rfl, hm6, hnc, g6⟩
              have HA6 := Lib.hid (And.intro ((HA5.out.put N ao' L' cap').gr0 g6) (And.intro ((HS5.out.grB (grP w5 (b7 + 1 + 1) (.int .i64 N) (.slice ao' L' cap')) (set_far HA5.out.t HS5.out)).gr0 g6) (And.intro hm6 hnc)))
              clear g6 t0 t1 f0 f1 a1 a2 HA5 HS5 hm6 hnc
              go_wp2_with fail
              skip
              go_meet
              exact ⟨HA6.out.1.gr, .inr ⟨l', L', m', ao', na, cap', nc, rfl, rfl, rfl, HA6.out.2.2.2, HEE.out.1, HEE.out.2, HA6.out.1.t, HA6.out.2.1, HA6.out.2.2.1⟩⟩
        · as_aux_lemma =>
            rcases give_both N m l L x n HP.out.set.runs HP.out.eqv HP.out.len (by omega) with ⟨g, hg, HU, HR⟩ | ⟨l', L', m', hL', he', HU, HR⟩
            · have HUU := Lib.hid HU
              have HRR := Lib.hid HR
              have HGG := Lib.hid hg
              have HPA := Lib.hid (HP.out.gr0 HA.out.gr)
              have c0 := HPA.out.box.cell 0
              have c1 := HPA.out.box.cell 1
              have a1 := HA.out.e.cell 0
              have a2 := HA.out.e.cell 1
              clear HU HR hg
              go_wp2_with fail
              clear hmx
              refine (HUU.out _ _ _ HPA.out.set).mono ?_
              rintro e w5 ⟨rfl, g5⟩
              have HA5 := Lib.hid (HA.out.gr0 g5)
              clear g5 c0 c1 a1 a2 k0
              have t0 := HA5.out.t.cell 0
              have t1 := HA5.out.t.cell 1
              have f0 := HA5.out.t.frozen 0
              have f1 := HA5.out.t.frozen 1
              have a1 := HA5.out.a.cell 1
              have a2 := HA5.out.a.cell 2
              go_wp2_with fail
              refine (HRR.out _ _ _ (HA5.out.put 0 none 0 0).mm HPA.out.hmc).mono ?_
              rintro e w6 ⟨rfl, g6⟩
              have HA6 := Lib.hid ((HA5.out.put 0 none 0 0).gr0 g6)
              clear g6 t0 t1 f0 f1 a1 a2 HA5
              go_wp2_with fail
              skip
              go_meet
              exact ⟨HA6.out.gr, .inl ⟨g, HGG, rfl, rfl, HA6.out.t⟩⟩
            · have HUU := Lib.hid HU
              have HRR := Lib.hid HR
              have HPA := Lib.hid (HP.out.gr0 HA.out.gr)
              have HEE := Lib.hid (And.intro hL' he')
              have c0 := HPA.out.box.cell 0
              have c1 := HPA.out.box.cell 1
              have a1 := HA.out.e.cell 0
              have a2 := HA.out.e.cell 1
              clear HU HR hL' he'
              go_wp2_with fail
              clear hmx
              refine (HUU.out _ _ _ HPA.out.set).mono ?_
              rintro e w5 ⟨ao', cap', rfl, hs5, g5⟩
              have HA5 := Lib.hid (HA.out.gr0 g5)
              have HS5 := Lib.hid hs5
              clear g5 hs5 c0 c1 a1 a2 k0
              have t0 := HA5.out.t.cell 0
              have t1 := HA5.out.t.cell 1
              have f0 := HA5.out.t.frozen 0
              have f1 := HA5.out.t.frozen 1
              have a1 := HA5.out.a.cell 1
              have a2 := HA5.out.a.cell 2
              go_wp2_with fail
              refine (HRR.out _ _ _ (HA5.out.put N ao' L' cap').mm HPA.out.hmc).mono ?_
              rintro e w6 ⟨na, nc, rfl, hm6, hnc, g6⟩
              have HA6 := Lib.hid (And.intro ((HA5.out.put N ao' L' cap').gr0 g6) (And.intro ((HS5.out.grB (grP w5 (b7 + 1 + 1) (.int .i64 N) (.slice ao' L' cap')) (set_far HA5.out.t HS5.out)).gr0 g6) (And.intro hm6 hnc)))
              clear g6 t0 t1 f0 f1 a1 a2 HA5 HS5 hm6 hnc
              go_wp2_with fail
              skip
              go_meet
              exact ⟨HA6.out.1.gr, .inr ⟨l', L', m', ao', na, cap', nc, rfl, rfl, rfl, HA6.out.2.2.2, HEE.out.1, HEE.out.2, HA6.out.1.t, HA6.out.2.1, HA6.out.2.2.1⟩⟩
        · as_aux_lemma =>
            rcases take_both N m l L n HP.out.set.runs HP.out.eqv HP.out.len (by omega) HN63.out with ⟨g, hg, HU, HR⟩ | ⟨l', L', m', t, T, hT, hTN, hL', he', HU, HR⟩
            · have HUU := Lib.hid HU
              have HRR := Lib.hid HR
              have HGG := Lib.hid hg
              have HPA := Lib.hid (HP.out.gr0 HA.out.gr)
              have c0 := HPA.out.box.cell 0
              have c1 := HPA.out.box.cell 1
              have a2 := HA.out.a.cell 2
              clear HU HR hg
              go_wp2_with fail
              clear hmx
              refine (HUU.out _ _ _ HPA.out.set).mono ?_
              rintro e w5 ⟨rfl, g5⟩
              have HA5 := Lib.hid (HA.out.gr0 g5)
              clear g5 c0 c1 a2 k0
              have t0 := HA5.out.t.cell 0
              have t1 := HA5.out.t.cell 1
              have f0 := HA5.out.t.frozen 0
              have f1 := HA5.out.t.frozen 1
              have a2 := HA5.out.a.cell 2
              go_wp2_with fail
              refine (HRR.out _ _ _ (HA5.out.put 0 none 0 0).mm HPA.out.hmc).mono ?_
              rintro e w6 ⟨rfl, g6⟩
              have HA6 := Lib.hid ((HA5.out.put 0 none 0 0).gr0 g6)
              clear g6 t0 t1 f0 f1 a2 HA5
              go_wp2_with fail
              go_loopw [128] (fun i wv => i = .int .i64 0 ∧ Gr [] w6 wv) (fun i _ => 0)
              case atStart => exact ⟨rfl, Gr.refl _ _⟩
              case round =>
                obtain ⟨rfl, G⟩ := hrel
                have HA7 := Lib.hid (HA6.out.gr0 G)
                clear G HA6
                go_wp2_with fail
                skip
                go_meet
                exact ⟨HA7.out.gr, .inl ⟨g, HGG, rfl, rfl, HA7.out.t⟩⟩
            · have HUU := Lib.hid HU
              have HRR := Lib.hid HR
              have HPA := Lib.hid (HP.out.gr0 HA.out.gr)
              have HEE := Lib.hid (And.intro hL' (And.intro he' hT))
              have c0 := HPA.out.box.cell 0
              have c1 := HPA.out.box.cell 1
              have a2 := HA.out.a.cell 2
              clear HU HR hL' he' hT
              go_wp2_with fail
              clear hmx
              refine (HUU.out _ _ _ HPA.out.set).mono ?_
              rintro e w5 ⟨ao', cap', ga, gc, rfl, hs5, hr5, g5⟩
              have HA5 := Lib.hid (HA.out.gr0 g5)
              have HS5 := Lib.hid (And.intro hs5 hr5)
              clear g5 hs5 hr5 c0 c1 a2 k0
              have t0 := HA5.out.t.cell 0
              have t1 := HA5.out.t.cell 1
              have f0 := HA5.out.t.frozen 0
              have f1 := HA5.out.t.frozen 1
              have a2 := HA5.out.a.cell 2
              go_wp2_with fail
              refine (HRR.out _ _ _ (HA5.out.put N ao' L' cap').mm HPA.out.hmc).mono ?_
              rintro e w6 ⟨na, nc, va, vc, rfl, hm6, hnc, hr6, g6⟩
              have HA6 := Lib.hid (And.intro ((HA5.out.put N ao' L' cap').gr0 g6) (And.intro ((HS5.out.1.grB (grP w5 (b7 + 1 + 1) (.int .i64 N) (.slice ao' L' cap')) (set_far HA5.out.t HS5.out.1)).gr0 g6) (And.intro hm6 hnc)))
              have HRD := Lib.hid (And.intro ((rd_grB HS5.out.2 (grP w5 (b7 + 1 + 1) (.int .i64 N) (.slice ao' L' cap')) (rd_far HA5.out.t HS5.out.2)).gr0 g6) hr6)
              clear g6 t0 t1 f0 f1 a2 HA5 HS5 hm6 hnc hr6
              go_wp2_with fail
              go_loopw [128] (fun i wv => ∃ j : Nat, j ≤ T ∧ i = .int .i64 j ∧ Gr [] w6 wv) (fun i _ => T - (intOf i).toNat)
              case atStart => exact ⟨0, by omega, rfl, Gr.refl _ _⟩
              case round =>
                obtain ⟨j, hj, rfl, G⟩ := hrel
                by_cases hjT : j < T
                · have hjT2 : (j : Int) < (T : Int) := by omega
                  obtain ⟨e, he⟩ : ∃ e, t[j]? = some e := ⟨_, List.getElem?_eq_getElem (by have := HEE.out.2.2; omega)⟩
                  have q : (zl t)[j]? = some ((e.1 : Int), (e.2 : Int)) := by rw [zl_get, he]; rfl
                  obtain ⟨b1, o1, hao1, hb1, z1, z2⟩ := HRD.out.1 j _ q
                  obtain ⟨b2, o2, hao2, hb2, y1, y2⟩ := HRD.out.2 j _ q
                  have Z1 : wr.cell? ⟨b1, o1 + j * 2, none⟩ = some (.int .i64 (e.1 : Int)) := (G.cell0 hb1).trans z1
                  have Z2 : wr.cell? ⟨b1, o1 + j * 2 + 1, none⟩ = some (.int .i64 (e.2 : Int)) := (G.cell0 hb1).trans z2
                  have Y1 : wr.cell? ⟨b2, o2 + j * 2, none⟩ = some (.int .i64 (e.1 : Int)) := (G.cell0 hb2).trans y1
                  have Y2 : wr.cell? ⟨b2, o2 + j * 2 + 1, none⟩ = some (.int .i64 (e.2 : Int)) := (G.cell0 hb2).trans y2
                  have HGJ := Lib.hid G
                  subst hao1 hao2
                  clear q he z1 z2 y1 y2 G hb1 hb2
                  go_wp2_with fail
                  go_quiet (fail)
                  go_wp2_with fail
                  go_roundw
                  case rel => exact ⟨j + 1, by omega, by simp, HGJ.out.drewN _⟩
                  case measure => simp [intOf]; omega
                · obtain rfl : j = T := by omega
                  have HA7 := Lib.hid (And.intro (HA6.out.1.gr0 G) (And.intro (HA6.out.2.1.gr0 G) (And.intro (HA6.out.2.2.1.gr0 G) HA6.out.2.2.2)))
                  clear G HA6 HRD
                  go_wp2_with fail
                  skip
                  go_meet
                  exact ⟨HA7.out.1.gr, .inr ⟨l', L', m', ao', na, cap', nc, rfl, rfl, rfl, HA7.out.2.2.2, HEE.out.1, HEE.out.2.1, HA7.out.1.t, HA7.out.2.1, HA7.out.2.2.1⟩⟩
      case rest =>
        as_aux_lemma =>
          clear hmx k0 hs
          have HPC := Lib.hid (HP.out.gr0 hcut.1)
          rcases hcut.2 with ⟨c, hc, hf, hg, ht⟩ | ⟨l', L', m', ao', na, cap', nc, hf, hg, hnx, hnc, hL', he', ht, hs', hm'⟩
          · subst hf hg
            have HT := Lib.hid ht
            have dc : ((c : Int) == 0) = false := by have := hc.out; simp; omega
            have dn : ((c : Int) != 0) = true := by have := hc.out; simp; omega
            have c0 := HPC.out.box.cell 0
            have c1 := HPC.out.box.cell 1
            clear ht hcut HP HA
            go_wp2_with fail
            refine (asame_any N L l m ao ma cap mc wc HPC.out.set HPC.out.mm HPC.out.eqv HPC.out.len).mono ?_
            rintro e w7 ⟨rfl, g7⟩
            have H7 := Lib.hid (And.intro (HPC.out.gr0 g7) (HT.out.gr0 g7))
            clear g7 HPC HT c0 c1
            have t0 := H7.out.2.cell 0
            have t1 := H7.out.2.cell 1
            go_wp2_with fail
            refine (asize_any 0 (.slice none 0 0) w7).mono ?_
            rintro e w8 ⟨rfl, g8⟩
            have H8 := Lib.hid (And.intro (H7.out.1.gr0 g8) (H7.out.2.gr0 g8))
            clear g8 H7 t0 t1
            have t0 := H8.out.2.cell 0
            have t1 := H8.out.2.cell 1
            go_wp2_with fail
            refine (afree_is 0 [] none 0 0 0 w8 (SetIs.nil w8 0 (by omega)) rfl rfl).mono ?_
            rintro e w9 ⟨rfl, g9⟩
            have H9 := Lib.hid (H8.out.1.gr0 g9)
            clear g9 H8 t0 t1
            go_wp2_with fail
            go_roundw
            case rel => exact ⟨k + 1, L, l, m, ao, ma, cap, mc, by omega, by simp, rfl, H9.out⟩
            case measure => simp [intOf]; omega
          · subst hf hg hnx
            have HT := Lib.hid (And.intro ht (And.intro hs' hm'))
            have HEE := Lib.hid (And.intro hL' (And.intro he' hnc))
            have c0 := HPC.out.box.cell 0
            have c1 := HPC.out.box.cell 1
            clear ht hs' hm' hL' he' hnc hcut HP HA
            go_wp2_with fail
            refine (asame_any N L l m ao ma cap mc wc HPC.out.set HPC.out.mm HPC.out.eqv HPC.out.len).mono ?_
            rintro e w7 ⟨rfl, g7⟩
            have H7 := Lib.hid (And.intro (HPC.out.gr0 g7) (And.intro (HT.out.1.gr0 g7) (And.intro (HT.out.2.1.gr0 g7) (HT.out.2.2.gr0 g7))))
            clear g7 HPC HT c0 c1
            have t0 := H7.out.2.1.cell 0
            have t1 := H7.out.2.1.cell 1
            go_wp2_with fail
            refine (asame_any N L' l' m' ao' na cap' nc w7 H7.out.2.2.1 H7.out.2.2.2 HEE.out.2.1 HEE.out.1).mono ?_
            rintro e w8 ⟨rfl, g8⟩
            have H8 := Lib.hid (And.intro (H7.out.1.gr0 g8) (And.intro (H7.out.2.1.gr0 g8) (And.intro (H7.out.2.2.1.gr0 g8) (H7.out.2.2.2.gr0 g8))))
            clear g8 H7 t0 t1
            have t0 := H8.out.2.1.cell 0
            have t1 := H8.out.2.1.cell 1
            have c0 := H8.out.1.box.cell 0
            have c1 := H8.out.1.box.cell 1
            have f0 := H8.out.1.box.frozen 0
            have f1 := H8.out.1.box.frozen 1
            go_wp2_with fail
            go_roundw
            case rel => exact ⟨k + 1, L', l', m', ao', na, cap', nc, by omega, by simp, rfl, H8.out.1.put H8.out.2.2.1 H8.out.2.2.2 HEE.out.2.2 HEE.out.1 HEE.out.2.1⟩
            case measure => simp [intOf]; omega
    · obtain rfl : k = M := by omega
      have hfin := Lib.hid HP.out.gr
      go_wp2_with fail
      go_ret
      exact ⟨rfl, hfin.out⟩

end Go.Proofs.Ytpkhfdcokcchdaa
