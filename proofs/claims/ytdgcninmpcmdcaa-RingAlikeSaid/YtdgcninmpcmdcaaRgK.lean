/-
  RingEven.
-/
import Derived.Test.YtdgcninmpcmdcaaMgX
import Derived.Test.YtdgcninmpcmdcaaPmN
import Derived.Test.YtdgcninmpcmdcaaGapM
import Derived.Deep.CutBlock
namespace Go.Proofs.Ytdgcninmpcmdcaa
open Go.RowKit
set_option linter.unusedVariables false

theorem minIs7 (P : Program) (L m k : Nat) (kI : Int) (hk : kI = k) (h : m = min L k) (ts : Array TypeId) (t : TypeId) (w : World) : (Builtin.min_ ts t #[.int .i64 (L : Int), .int .i64 kI]).run P w = .ok (.int .i64 (m : Int)) w := by
  subst hk
  rw [run_min_int2]
  have : (if ((k : Nat) : Int) < (L : Int) then ((k : Nat) : Int) else (L : Int)) = (m : Int) := by split <;> omega
  rw [this]
section
variable {w w' : World} {kb : Nat} {q : BkA} {a : DevA} {P : PlanR} {m n cc : Nat} {D : DevS}
/-- The n-th write. -/
theorem rg_step (hP : OkR P) {psi : Nat} (hpsi : P.psi = (psi : Int)) (G : GdR P D (befN psi n)) (i : Nat) (s : ByteArray) (hs : s.size = 64) (hi : i < P.l) (hn : n < 1000) :
    ∃ D3, GdR P D3 (n / psi) ∧ D3.n = D.n ∧ ∀ (w : World) (m cc : Nat), RgIs w kb q a P B0 m (befN psi n) (sinceN psi n) → DevIs w a D → Bd D cc → cc < 550000 → m < 70000 →
      Calls Try.prog 11 #[.pointer (some ⟨kb, 0, none⟩), .int .i64 (i : Int), .string s] w fun e w' => e = .returned (.int .i64 0) ∧ DevIs w' a D3 ∧ Bd D3 (cc + 4200) ∧ RgIs w' kb q a P B0 (m + 192) (n / psi) (n % psi + 1) ∧ Gr (kb :: (q.all ++ a.all)) w w' := by
  have hp1 : 1 ≤ psi := by have := hP.p1; omega
  obtain ⟨f1, f2, f3, f4⟩ := bef_step psi n hp1
  have hbl : befN psi n ≤ n := by
    unfold befN
    split
    · omega
    · exact Nat.le_trans (Nat.div_le_self _ _) (by omega)
  by_cases c : psi ≤ sinceN psi n
  · obtain ⟨g1, g2⟩ := f1 c
    obtain ⟨D1, D2, a1, a2, a3, a4, a5, a6, a7, a8⟩ := gd_move hP G (by omega)
    rw [g1] at a6
    obtain ⟨D3, b1, b2, b3, b4, b5⟩ := gd_line hP a6 (slotJ_in hP (n / psi) i hi).1 (slotJ_in hP (n / psi) i hi).2 hs
    refine ⟨D3, b2, b3.trans a5, fun w m cc r d hb hcc hm => ?_⟩
    have := rgwrite_mv i s r d hb hcc hm hi hs (by omega) (by omega) G.fit a4 a5 a1 a2 (by rw [g1] at a3 ⊢; exact a3) (by rw [g1]; exact b1)
    rw [g1] at this
    rw [g2]
    exact this
  · obtain ⟨g1, g2⟩ := f2 (by omega)
    obtain ⟨D3, b1, b2, b3, b4, b5⟩ := gd_line hP G (slotJ_in hP (befN psi n) i hi).1 (slotJ_in hP (befN psi n) i hi).2 hs
    rw [g1] at b2
    refine ⟨D3, b2, b3, fun w m cc r d hb hcc hm => ?_⟩
    have := rgwrite_st i s r d hb hcc hm hi hs (by omega) G.fit b1
    rw [g1, g2] at this
    exact this
end
theorem maxIs7 (P : Program) (L m k : Nat) (h : m = max L k) (ts : Array TypeId) (t : TypeId) (w : World) : (Builtin.max_ ts t #[.int .i64 (L : Int), .int .i64 (k : Int)]).run P w = .ok (.int .i64 (m : Int)) w := by
  rw [run_max_int2]
  have : (if ((k : Nat) : Int) > (L : Int) then ((k : Nat) : Int) else (L : Int)) = (m : Int) := by split <;> omega
  rw [this]
theorem mvd_even {l psi n : Nat} (h1 : 1 ≤ l) (h2 : l ≤ 5) (h3 : 1 ≤ psi) (h4 : psi ≤ 4) (h5 : n ≤ 120) : ∀ x ∈ mvdN l psi n, ∀ y ∈ mvdN l psi n, x ≤ y + 1 := by
  by_cases c : n = 0
  · subst c
    intro x hx y hy
    have := mvdN_le l psi 0 x hx
    omega
  · exact (even_all h1 h2 h3 h4 h5 (by omega)).2
theorem wq7 (J : Nat) (h : J < 1000) : wrap64 (J : Int) % 4294967296 = (J : Int) := by unfold wrap64; omega
theorem enc20 (i : Nat) (h : i < 20) : (Utf8.encode (97 + (i : Int))).size ≤ 4 := by
  have : ∀ j : Fin 20, (Utf8.encode (97 + ((j.val : Nat) : Int))).size ≤ 4 := by decide +kernel
  exact this ⟨i, h⟩
theorem smallR_ok (x0 x1 x2 x3 : Int) : (smallR x0 x1 x2 x3).l ≤ 5 ∧ 1 ≤ (smallR x0 x1 x2 x3).l ∧ 0 ≤ (smallR x0 x1 x2 x3).a ∧ (smallR x0 x1 x2 x3).a ≤ 1 ∧ 1 ≤ (smallR x0 x1 x2 x3).psi ∧ (smallR x0 x1 x2 x3).psi ≤ 4 ∧ 0 ≤ (smallR x0 x1 x2 x3).s ∧ (smallR x0 x1 x2 x3).s ≤ 8 := by
  unfold smallR
  simp only
  have h0 := mx_nonneg x0
  have h1 := mx_nonneg x1
  have h2 := mx_nonneg x2
  have h3 := mx_nonneg x3
  omega
set_option maxRecDepth 100000 in
set_option maxHeartbeats 8000000 in
theorem small07 (x0 x1 x2 x3 : Int) (w : World) : Calls Try.prog 5 #[.agg #[.int .i64 x0, .int .i64 x1, .int .i64 x2, .int .i64 x3]] w fun e w' => e = .returned (planRV (smallR x0 x1 x2 x3)) ∧ Gr [] w w' := by
  have hmx := max0 Try.prog
  have h0 := mx_nonneg x0
  have h1 := mx_nonneg x1
  have h2 := mx_nonneg x2
  have h3 := mx_nonneg x3
  have hl : (((1 + mx x1 % 5).toNat : Nat) : Int) = 1 + mx x1 % 5 := by omega
  unfold planRV smallR
  simp only
  rw [hl]
  clear hl
  go_enter Try.func5, Try.ntmps5
  go_wp2_with fail
  exact bodyPost_ret (v := .agg #[.int .i64 (mx x0 % 2), .int .i64 (1 + mx x1 % 5), .int .i64 (mx x2 % 9), .int .i64 (1 + mx x3 % 4)]) (by simp [results, Try.results5, go_sem]) rfl ⟨rfl, ((Gr.refl [] w).alloc _).alloc _⟩
set_option maxRecDepth 100000 in
set_option maxHeartbeats 40000000 in
theorem even_law (x0 x1 x2 x3 : Int) (v : Value) (xs : List Int) {w : World} (hv : SlI .u8 w v xs) (hx : ∀ x ∈ xs, 0 ≤ x ∧ x ≤ 255) :
    Calls Try.prog 3 #[.agg #[.int .i64 x0, .int .i64 x1, .int .i64 x2, .int .i64 x3], v] w fun e w' => e = .returned (.bool true) ∧ Gr [] w w' := by
  have HV := Lib.hid hv
  have HX := Lib.hid hx
  have HSm := Lib.hid (fun W => small07 x0 x1 x2 x3 W)
  obtain ⟨t1, t2, t3, t4, t5, t6, t7, t8⟩ := smallR_ok x0 x1 x2 x3
  obtain ⟨Q, hQ⟩ : ∃ Q, Q = smallR x0 x1 x2 x3 := ⟨_, rfl⟩
  rw [← hQ] at HSm t1 t2 t3 t4 t5 t6 t7 t8
  unfold planRV at HSm
  obtain ⟨P, hP0⟩ : ∃ P : PlanR, P = ⟨Q.a, Q.l, 0, Q.psi⟩ := ⟨_, rfl⟩
  have hPa : Q.a = P.a := by rw [hP0]
  have hPl : Q.l = P.l := by rw [hP0]
  have hPp : Q.psi = P.psi := by rw [hP0]
  have hPs : P.s = 0 := by rw [hP0]
  rw [hPa, hPl, hPp] at HSm
  rw [hPl] at t1 t2
  rw [hPa] at t3 t4
  rw [hPp] at t5 t6
  have hOK : OkR P := ⟨t2, by omega, t5, by omega, (okZ_iff _).2 ⟨t3, by show P.a ≤ 8192; omega, by show 1 ≤ (P.l : Int) + 2; omega, by show (P.l : Int) + 2 ≤ 1026; omega, by show 0 ≤ P.s; omega, by show P.s ≤ 64; omega⟩⟩
  have HOK := Lib.hid hOK
  obtain ⟨psi, hpsi⟩ : ∃ psi : Nat, P.psi = (psi : Int) := ⟨P.psi.toNat, by omega⟩
  have HPS := Lib.hid (And.intro hpsi (And.intro (show 1 ≤ psi by omega) (show psi ≤ 4 by omega)))
  have HLL := Lib.hid (And.intro t1 t2)
  obtain ⟨q1, q2, q3, q4, q5, q6⟩ := rg_nums hOK
  have htb : tabZ (bankR P) = 0 := by show (P.s + 7) / 8 = 0; omega
  have hfit : (bankR P).a + sizeZ (bankR P) ≤ (20 : Int) := by
    have ha : (bankR P).a = P.a := rfl
    omega
  obtain ⟨L, hL⟩ : ∃ L : Nat, L = (tabZ (bankR P) + (bankR P).l).toNat := ⟨_, rfl⟩
  have hbl : (bankR P).l = (P.l : Int) + 2 := rfl
  obtain ⟨z1, n1, b1⟩ := fmt_zero (p := bankR P) (zero_new 20) t3 L (by show P.a + (L : Int) ≤ ((20 : Nat) : Int); omega)
  obtain ⟨F, hF⟩ : ∃ F, F = fmtD (bankR P) L (newD 20) := ⟨_, rfl⟩
  rw [← hF] at z1 n1 b1
  obtain ⟨E, f1, f2, f3, f4⟩ := gd_fresh hOK z1 (by rw [b1]; rfl) (by rw [n1]; exact hfit)
  have HFm := Lib.hid (fun (W : World) (a : DevA) (q1 : DevIs W a (newD 20)) => show Calls Try.prog 7 #[.pointer (some ⟨a.bd, 0, none⟩), .agg #[.int .i64 P.a, .int .i64 (P.l : Int), .int .i64 P.s, .int .i64 P.psi]] W _ from rgformat_ok (P := P) (D1 := E) (B1 := B0) (cc := 0) hOK q1 (zero_new 20) rfl ⟨Nat.le_refl _, fun l => ⟨Int.le_refl _, Int.le_refl _⟩⟩ (by omega) (by
    unfold checkZ
    rw [if_pos hOK.ok, if_neg (by show ¬ (((20 : Nat) : Int) < _); omega)]) (by rw [← hL, ← hF]; exact f1))
  have HOp := Lib.hid (fun (W : World) (a : DevA) (q1 : DevIs W a E) => show Calls Try.prog 9 #[.pointer (some ⟨a.bd, 0, none⟩), .agg #[.int .i64 P.a, .int .i64 (P.l : Int), .int .i64 P.s, .int .i64 P.psi]] W _ from rgopen_ok (P := P) (j := 0) hOK q1 f2.calm.off (gd_check hOK f2) (gd_opens hOK f2) (gd_reads hOK f2 (by omega) (by omega)) (by rw [line_words f2.calm f2.mb 0 (by omega), Nat.add_zero]; exact f2.reg) (by rw [line_size]; unfold maxLen; omega) (by omega))
  have HE := Lib.hid (And.intro f2 (f3.trans n1))
  have HGx := Lib.hid ((Gr.refl [] w).alloc (Obj.cells #[.int .i64 x0, .int .i64 x1, .int .i64 x2, .int .i64 x3] 22))
  rw [hPs] at HFm HOp
  clear hv hx hQ hP0 hPa hPl hPp hOK hpsi q1 q2 q3 q4 q5 q6 htb hfit hL hbl z1 n1 b1 hF f1 f2 f3 f4
  go_enter Try.func3, Try.ntmps3
  go_wp2_with fail
  generalize (w.alloc (Obj.cells #[.int .i64 x0, .int .i64 x1, .int .i64 x2, .int .i64 x3] 22)) = w1 at *
  refine (HSm.out _).mono ?_
  rintro e w2 ⟨rfl, g2⟩
  have HG2 := Lib.hid (HGx.out.trans g2)
  clear g2 HGx HSm
  go_upto_region 3 with fail
  have hh := Holds.new w2 #[.int .i64 P.a, .int .i64 (P.l : Int), .int .i64 0, .int .i64 P.psi] 25
  have ga := (Gr.refl [] w2).alloc (Obj.cells #[.int .i64 P.a, .int .i64 (P.l : Int), .int .i64 0, .int .i64 P.psi] 25)
  have HH := Lib.hid hh
  have HG3 := Lib.hid (HG2.out.trans ga)
  have HPW := Lib.hid (show w.heap.size ≤ w2.heap.size from HG2.out.size)
  clear hh ga HG2
  generalize (w2.alloc (Obj.cells #[.int .i64 P.a, .int .i64 (P.l : Int), .int .i64 0, .int .i64 P.psi] 25)) = w3 at *
  obtain ⟨pb, hpb⟩ : ∃ pb, w2.heap.size = pb := ⟨_, rfl⟩
  rw [hpb] at HH HPW ⊢
  clear hpb
  go_wp2_with fail
  refine (pmnew_yes 20 _ (by omega) (by omega)).mono ?_
  rintro e w4 ⟨a, rfl, d4, hlo, g4⟩
  have HN := Lib.hid (show ∀ (wa wb : World), Gr [] w wa → Gr a.all wa wb → Gr [] w wb from fun wa wb p q => p.nextN q fun x hx => .inr (Nat.le_trans HG3.out.size (hlo x hx)))
  have HLO := Lib.hid (show ∀ x ∈ a.all, w.heap.size ≤ x from fun x hx => Nat.le_trans HG3.out.size (hlo x hx))
  have HNP := Lib.hid (show pb ∉ a.all from fun q => by have := hlo _ q; have := HH.out.lt; omega)
  have H4 := Lib.hid (And.intro d4 (And.intro (HH.out.gr0 g4) (HG3.out.trans g4)))
  have c0 := H4.out.2.1.cell 0
  have c1 := H4.out.2.1.cell 1
  have c2 := H4.out.2.1.cell 2
  have c3 := H4.out.2.1.cell 3
  clear d4 g4 hlo HH HG3
  go_wp2_with fail
  refine (HFm.out _ a H4.out.1).mono ?_
  rintro e w5 ⟨rfl, d5, b5, g5⟩
  have H5 := Lib.hid (And.intro d5 (And.intro (H4.out.2.1.gr g5 HNP.out) (And.intro (HN.out _ _ H4.out.2.2 g5) b5)))
  clear d5 b5 g5 c0 c1 c2 c3 H4 HFm
  go_wp2_with fail
  refine (wakes07 _).mono ?_
  rintro e w6 ⟨rfl, g6⟩
  have H6 := Lib.hid (And.intro (H5.out.1.gr0 g6) (And.intro (H5.out.2.1.gr0 g6) (And.intro (H5.out.2.2.1.trans g6) H5.out.2.2.2)))
  clear g6 H5
  have c0 := H6.out.2.1.cell 0
  have c1 := H6.out.2.1.cell 1
  have c2 := H6.out.2.1.cell 2
  have c3 := H6.out.2.1.cell 3
  go_wp2_with fail
  refine (HOp.out _ a H6.out.1).mono ?_
  rintro e w7 ⟨kb, q, rfl, r7, hnew, g7⟩
  have HNQ := Lib.hid (show ∀ (wa wb : World), Gr [] w wa → Gr (kb :: (q.all ++ a.all)) wa wb → Gr [] w wb from fun wa wb p r => p.nextN r fun x hx => by
    rcases List.mem_cons.1 hx with rfl | hx
    · exact .inr (Nat.le_trans H6.out.2.2.1.size (hnew _ (by simp)))
    · rcases List.mem_append.1 hx with hx | hx
      · exact .inr (Nat.le_trans H6.out.2.2.1.size (hnew x (by simp [hx])))
      · exact .inr (HLO.out x hx))
  have HPN := Lib.hid (show pb ∉ kb :: (q.all ++ a.all) from fun hx => by
    have hl := H6.out.2.1.lt
    rcases List.mem_cons.1 hx with rfl | hx
    · have := hnew _ (List.mem_cons_self); omega
    · rcases List.mem_append.1 hx with hx | hx
      · have := hnew _ (List.mem_cons_of_mem _ hx); omega
      · exact HNP.out hx)
  have H7 := Lib.hid (And.intro (H6.out.1.gr0 g7) (And.intro r7 (And.intro (H6.out.2.1.gr0 g7) (And.intro (H6.out.2.2.1.trans g7) H6.out.2.2.2))))
  clear r7 hnew g7 c0 c1 c2 c3 H6 HOp
  have c1 := H7.out.2.2.1.cell 1
  have hPl5 : P.l ≤ 5 := HLL.out.1
  have HMk := Lib.hid (fun (k : Nat) (hk : k ≤ 65536) (W : World) => make_run (t := 37) (e := 3) (.int .i64 0) 8 k (k : Int) rfl Try.underlying37 infoInt rfl (by omega) hk W)
  have m1 := HMk.out (P.l + 1) (by omega)
  have m2 := HMk.out P.l (by omega)
  rw [show ((P.l + 1 : Nat) : Int) = (P.l : Int) + 1 by omega] at m1
  go_upto_region 10 with fail
  have HMB := Lib.hid (show Holds (w7.alloc (Obj.cells (rowOf (fun _ => Value.int .i64 0) (P.l + 1)) 3)) w7.heap.size (rowL (mvdN P.l psi 0)) 3 by
    rw [rowL_zero]
    exact Holds.new w7 _ _)
  have ga := (Gr.refl [] w7).alloc (Obj.cells (rowOf (fun _ => Value.int .i64 0) (P.l + 1)) 3)
  have H8 := Lib.hid (And.intro (H7.out.1.gr0 ga) (And.intro (H7.out.2.1.gr0 ga) (And.intro (H7.out.2.2.1.gr0 ga) (And.intro (H7.out.2.2.2.1.trans ga) H7.out.2.2.2.2))))
  have HMF := Lib.hid (show w.heap.size ≤ w7.heap.size ∧ w7.heap.size ≠ pb ∧ w7.heap.size ∉ kb :: (q.all ++ a.all) from ⟨H7.out.2.2.2.1.size, fun e => by have := H7.out.2.2.1.lt; omega, fun hx => by
    rcases List.mem_cons.1 hx with hx | hx
    · have := H7.out.2.1.head.lt; omega
    · rcases List.mem_append.1 hx with hx | hx
      · have := H7.out.2.1.bk.lt _ hx; omega
      · have := H7.out.1.lt _ hx; omega⟩)
  clear ga c1 m1 H7
  generalize (w7.alloc (Obj.cells (rowOf (fun _ => Value.int .i64 0) (P.l + 1)) 3)) = w8 at *
  obtain ⟨mb, hmb⟩ : ∃ mb, w7.heap.size = mb := ⟨_, rfl⟩
  rw [hmb] at HMB HMF ⊢
  clear hmb
  have c1 := H8.out.2.2.1.cell 1
  go_upto_region 11 with fail
  have HSB := Lib.hid (show Holds (w8.alloc (Obj.cells (rowOf (fun _ => Value.int .i64 0) P.l) 3)) w8.heap.size (rowL (stayN P.l psi 0)) 3 by
    rw [rowL_zero]
    exact Holds.new w8 _ _)
  have ga := (Gr.refl [] w8).alloc (Obj.cells (rowOf (fun _ => Value.int .i64 0) P.l) 3)
  have H9 := Lib.hid (And.intro (H8.out.1.gr0 ga) (And.intro (H8.out.2.1.gr0 ga) (And.intro (H8.out.2.2.1.gr0 ga) (And.intro (H8.out.2.2.2.1.trans ga) (And.intro H8.out.2.2.2.2 (HMB.out.gr0 ga))))))
  have HSFF := Lib.hid (show w.heap.size ≤ w8.heap.size ∧ w8.heap.size ≠ pb ∧ w8.heap.size ∉ kb :: (q.all ++ a.all) ∧ w8.heap.size ≠ mb from ⟨H8.out.2.2.2.1.size, fun e => by have := H8.out.2.2.1.lt; omega, fun hx => by
    rcases List.mem_cons.1 hx with hx | hx
    · have := H8.out.2.1.head.lt; omega
    · rcases List.mem_append.1 hx with hx | hx
      · have := H8.out.2.1.bk.lt _ hx; omega
      · have := H8.out.1.lt _ hx; omega, fun e => by have := HMB.out.lt; omega⟩)
  clear ga c1 m2 H8 HMB
  generalize (w8.alloc (Obj.cells (rowOf (fun _ => Value.int .i64 0) P.l) 3)) = w9 at *
  obtain ⟨sb, hsb⟩ : ∃ sb, w8.heap.size = sb := ⟨_, rfl⟩
  rw [hsb] at HSB HSFF ⊢
  clear hsb HMk
  have HSt := Lib.hid (fun (W : World) (m j c : Nat) (h : RgIs W kb q a P B0 m j c) => show Calls Try.prog 10 #[.pointer (some ⟨kb, 0, none⟩)] W fun e w' => e = .returned (.agg #[.int .i64 (sAt P.l j), .int .i64 (gAt P.l j), .int .u32 (j : Int)]) ∧ Gr [] W w' from rstate_any h)
  go_wp2_with fail
  refine (HSt.out _ _ _ _ H9.out.2.1).mono ?_
  rintro e w10 ⟨rfl, g10⟩
  have H10 := Lib.hid (And.intro (H9.out.1.gr0 g10) (And.intro (H9.out.2.1.gr0 g10) (And.intro (H9.out.2.2.1.gr0 g10) (And.intro (H9.out.2.2.2.1.trans g10) (And.intro H9.out.2.2.2.2.1 (And.intro (H9.out.2.2.2.2.2.gr0 g10) (HSB.out.gr0 g10)))))))
  clear g10 H9 HSB
  go_upto_region 12 with fail
  have HLB := Lib.hid (Holds.new w10 #[.int .i64 (sAt P.l 0), .int .i64 (gAt P.l 0), .int .u32 ((0 : Nat) : Int)] 40)
  have ga := (Gr.refl [] w10).alloc (Obj.cells #[.int .i64 (sAt P.l 0), .int .i64 (gAt P.l 0), .int .u32 ((0 : Nat) : Int)] 40)
  have H11 := Lib.hid (And.intro (H10.out.1.gr0 ga) (And.intro (H10.out.2.1.gr0 ga) (And.intro (H10.out.2.2.1.gr0 ga) (And.intro (H10.out.2.2.2.1.trans ga) (And.intro H10.out.2.2.2.2.1 (And.intro (H10.out.2.2.2.2.2.1.gr0 ga) (H10.out.2.2.2.2.2.2.gr0 ga)))))))
  have HLF := Lib.hid (show w.heap.size ≤ w10.heap.size ∧ w10.heap.size ≠ pb ∧ w10.heap.size ∉ kb :: (q.all ++ a.all) ∧ w10.heap.size ≠ mb ∧ w10.heap.size ≠ sb from ⟨H10.out.2.2.2.1.size, fun e => by have := H10.out.2.2.1.lt; omega, fun hx => by
    rcases List.mem_cons.1 hx with hx | hx
    · have := H10.out.2.1.head.lt; omega
    · rcases List.mem_append.1 hx with hx | hx
      · have := H10.out.2.1.bk.lt _ hx; omega
      · have := H10.out.1.lt _ hx; omega, fun e => by have := H10.out.2.2.2.2.2.1.lt; omega, fun e => by have := H10.out.2.2.2.2.2.2.lt; omega⟩)
  clear ga H10
  generalize (w10.alloc (Obj.cells #[.int .i64 (sAt P.l 0), .int .i64 (gAt P.l 0), .int .u32 ((0 : Nat) : Int)] 40)) = w11 at *
  obtain ⟨lb, hlb⟩ : ∃ lb, w10.heap.size = lb := ⟨_, rfl⟩
  rw [hlb] at HLB HLF ⊢
  clear hlb
  have HE0 := Lib.hid (show Evn w kb pb mb sb lb q a P psi 0 E w11 from ⟨H11.out.1, H11.out.2.1, H11.out.2.2.1, H11.out.2.2.2.1, H11.out.2.2.2.2.1, H11.out.2.2.2.2.2.1, H11.out.2.2.2.2.2.2, HLB.out, HE.out.1, HE.out.2⟩)
  clear H11 HLB HE
  go_cut [63, 64, 65] (fun sv nv iv wz => wz = w11 ∧ iv = .int .i64 0 ∧ ∃ (M cap : Nat) (ao : Option Addr), sv = .slice ao M cap ∧ nv = .int .i64 (M : Int) ∧ M ≤ 120 ∧ ∀ k, k < M → ∃ (vb off n : Nat), ao = some ⟨vb, off, none⟩ ∧ n < 256 ∧ vb < w.heap.size ∧ w.cell? ⟨vb, off + k, none⟩ = some (.int .u8 (n : Int)))
  case first =>
    have HVV := HV
    rcases HV.out with ⟨ao, cap, rfl, rfl, hn, hm⟩ | ⟨vb, off, cap, rfl, h1, h2, h3, h4, h5⟩
    · have hmn := minIs7 Try.prog 0 0 120 120 rfl rfl
      have HNN := Lib.hid hn
      unfold maxLen at hm
      clear hn HVV HV
      cases ao
      case none =>
        obtain rfl := HNN.out rfl
        go_wp2_with fail
        go_meet
        exact ⟨rfl, rfl, 0, 0, none, rfl, rfl, by omega, fun k hk => by omega⟩
      case some ad =>
        go_wp2_with fail
        go_meet
        exact ⟨rfl, rfl, 0, _, _, rfl, rfl, by omega, fun k hk => by omega⟩
    · obtain ⟨M, hM⟩ : ∃ M, M = min xs.length 120 := ⟨_, rfl⟩
      have hmn := minIs7 Try.prog xs.length M 120 120 rfl hM
      have hM1 : M ≤ xs.length := by omega
      have HM12 := Lib.hid (show M ≤ 120 by omega)
      have HCl := Lib.hid h5
      have HVB := Lib.hid h4
      unfold maxLen at h3
      clear hM h4 h5 HVV HV
      generalize hL : xs.length = L at *
      have HL := Lib.hid hL
      clear hL
      have HML1 := Lib.hid hM1
      go_wp2_with fail
      go_meet
      refine ⟨rfl, rfl, M, _, _, rfl, rfl, HM12.out, fun k hk => ?_⟩
      have hkL : k < xs.length := by have := HML1.out; have := HL.out; omega
      have hx8 := HX.out (xs[k]) (List.getElem_mem hkL)
      refine ⟨vb, off, (xs[k]).toNat, rfl, by omega, HVB.out, ?_⟩
      rw [HCl.out k (xs[k]) (List.getElem?_eq_getElem hkL)]
      congr 2
      omega
  case rest =>
    obtain ⟨rfl, rfl, M, cap, ao, rfl, rfl, hM12, hcl⟩ := hcut
    have HCl := Lib.hid hcl
    clear hcl
    go_wp2_with fail
    go_loopw [65] (fun z wr => ∃ (n : Nat) (D : DevS), n ≤ M ∧ z = .int .i64 (n : Int) ∧ Evn w kb pb mb sb lb q a P psi n D wr) (fun z _ => M - (intOf z).toNat)
    case atStart => exact ⟨0, E, by omega, rfl, HE0.out⟩
    case round =>
      obtain ⟨n, D, hn, rfl, he⟩ := hrel
      have HEn := Lib.hid he
      clear he
      by_cases hnM : n < M
      · obtain ⟨vb, off, x, rfl, hx, hvb, hcell⟩ := HCl.out n hnM
        have ik : (n : Int) < (M : Int) := by omega
        have e0 := (HEn.out.gr.cell0 hvb).trans hcell
        clear hcell hvb
        go_wp2_with fail
        refine (HSt.out _ _ _ _ HEn.out.rg).mono ?_
        rintro e w12 ⟨rfl, g12⟩
        have HE1 := Lib.hid (HEn.out.next0 g12)
        clear g12 HEn e0
        have hf1 := fld_g (sAt P.l (befN psi n)) (gAt P.l (befN psi n)) ((befN psi n : Nat) : Int)
        go_wp2_with fail
        refine (HSt.out _ _ _ _ HE1.out.rg).mono ?_
        rintro e w13 ⟨rfl, g13⟩
        have HE2 := Lib.hid (HE1.out.next0 g13)
        clear g13 HE1
        go_upto_region 17 with fail
        have HBB := Lib.hid (Holds.new w13 #[.int .i64 (sAt P.l (befN psi n)), .int .i64 (gAt P.l (befN psi n)), .int .u32 ((befN psi n : Nat) : Int)] 40)
        have ga := (Gr.refl [] w13).alloc (Obj.cells #[.int .i64 (sAt P.l (befN psi n)), .int .i64 (gAt P.l (befN psi n)), .int .u32 ((befN psi n : Nat) : Int)] 40)
        have HE3 := Lib.hid (HE2.out.next0 ga)
        have HBF := Lib.hid (show w.heap.size ≤ w13.heap.size ∧ w13.heap.size ≠ pb ∧ w13.heap.size ∉ kb :: (q.all ++ a.all) ∧ w13.heap.size ≠ mb ∧ w13.heap.size ≠ sb ∧ w13.heap.size ≠ lb from ⟨HE2.out.gr.size, fun e => by have := HE2.out.plan.lt; omega, fun hx => by
          rcases List.mem_cons.1 hx with hx | hx
          · have := HE2.out.rg.head.lt; omega
          · rcases List.mem_append.1 hx with hx | hx
            · have := HE2.out.rg.bk.lt _ hx; omega
            · have := HE2.out.dev.lt _ hx; omega, fun e => by have := HE2.out.mv.lt; omega, fun e => by have := HE2.out.sy.lt; omega, fun e => by have := HE2.out.ls.lt; omega⟩)
        clear ga HE2 hf1
        generalize (w13.alloc (Obj.cells #[.int .i64 (sAt P.l (befN psi n)), .int .i64 (gAt P.l (befN psi n)), .int .u32 ((befN psi n : Nat) : Int)] 40)) = w14 at *
        obtain ⟨bb, hbb⟩ : ∃ bb, w13.heap.size = bb := ⟨_, rfl⟩
        rw [hbb] at HBB HBF ⊢
        clear hbb
        obtain ⟨r20, hr20⟩ : ∃ r, r = n % 20 := ⟨_, rfl⟩
        have HFu := Lib.hid (fun W => full07 (Utf8.encode (97 + (r20 : Int))) W (by have := enc20 r20 (by omega); omega))
        obtain ⟨S, hS⟩ : ∃ S, S = fullS (Utf8.encode (97 + (r20 : Int))) := ⟨_, rfl⟩
        rw [← hS] at HFu
        have hS64 : S.size = 64 := by rw [hS]; exact fullS_size _
        obtain ⟨D3, G3, hn3, hW⟩ := rg_step (kb := kb) (q := q) (a := a) HOK.out HPS.out.1 HE3.out.gd (x % P.l) S hS64 (Nat.mod_lt _ HLL.out.2) (by omega)
        have HWr := Lib.hid hW
        have HG3 := Lib.hid (And.intro G3 (hn3.trans HE3.out.dn))
        have ht1 : (x : Int).tmod (P.l : Int) = ((x % P.l : Nat) : Int) := by rw [Int.tmod_eq_emod_of_nonneg (by omega)]; omega
        have ht2 : (n : Int).tmod 20 = (r20 : Int) := by rw [Int.tmod_eq_emod_of_nonneg (by omega)]; omega
        have ht3 : IntKind.i64.wrap (97 + (r20 : Int)) = 97 + (r20 : Int) := IntWalk.i64_in _ (by omega)
        have hl0 : (P.l : Int) ≠ 0 := by have := HLL.out.2; omega
        have hr21 : r20 < 20 := by omega
        clear hS hS64 hW G3 hn3 hr20
        have k1 := kp_cell (HE3.out.plan.cell 1)
        have hne := kp_ne w14
        generalize hy : x % P.l = y at *
        clear hy
        refine wp_region_kp_tail 12 (by kernel_rfl) (by kernel_rfl) ?_
        simp only [List.take_succ_cons, List.take_zero, List.drop_succ_cons, List.drop_zero]
        repeat (go_big_quiet_step ((rename_i x; exact kp_call x ((HFu.out _).mono fun _ _ q => ⟨q.1, q.2.below0⟩))))
        with_reducible refine wpQuiet_nil ?_
        rintro _ ⟨y0, rfl⟩
        have hg := Gr.ofBelow (cs := []) y0.h
        have HE4 := Lib.hid (HE3.out.next0 hg)
        have HB4 := Lib.hid (HBB.out.gr0 hg)
        clear k1 hne hg HE3 HBB HFu ht1 ht2 ht3
        generalize y0.w = w15 at *
        clear y0
        go_wp2_with fail
        refine (HWr.out _ _ _ HE4.out.rg HE4.out.dev HE4.out.bd (by omega) (by omega)).mono ?_
        rintro e w16 ⟨rfl, d16, b16, r16, g16⟩
        have HM := Lib.hid (show Evm w kb pb mb sb lb bb q a P n (n / psi) (befN psi n) (n % psi + 1) D3 (mvdN P.l psi n) (stayN P.l psi n) w16 from ⟨d16, r16, HE4.out.plan.gr g16 HPN.out, HNQ.out _ _ HE4.out.gr g16, HE4.out.mv.gr g16 HMF.out.2.2, HE4.out.sy.gr g16 HSFF.out.2.2.1, HE4.out.ls.gr g16 HLF.out.2.2.1, HB4.out.gr g16 HBF.out.2.2.1⟩)
        have HBd := Lib.hid b16
        clear d16 b16 r16 g16 HE4 HB4 HWr hr21 hl0
        have hqn : n / psi ≤ n := Nat.div_le_self _ _
        obtain ⟨J, hJ⟩ : ∃ J, J = n / psi := ⟨_, rfl⟩
        rw [← hJ] at HM HG3 hqn
        have c3 := HM.out.plan.cell 3
        have hps : (P.psi : Int) = (psi : Int) := HPS.out.1
        rw [hps] at c3
        have hq0 : (psi : Int) ≠ 0 := by have := HPS.out.2.1; omega
        have hqd : (n : Int) / (psi : Int) = (J : Int) := by rw [hJ]; exact (Int.natCast_ediv _ _).symm
        have hq2 : wrap64 ((n : Int) / (psi : Int)) % 4294967296 = (J : Int) := by rw [hqd]; exact wq7 J (by omega)
        have HJ := Lib.hid hJ
        clear hps hqd hJ
        go_upto_region 20 with fail
        rw [hq2]
        clear hq0 c3 hq2
        go_wp2_with fail
        refine (HSt.out _ _ _ _ HM.out.rg).mono ?_
        rintro e w17 ⟨rfl, g17⟩
        have HM2 := Lib.hid (HM.out.next0 g17)
        clear g17 HM
        have hf2 := fld_m (sAt P.l J) (gAt P.l J) (J : Int)
        go_upto_region 22 with fail
        clear hf2
        have k0 := kp_cell (HM2.out.bf.cell 0)
        have k1 := kp_cell (HM2.out.bf.cell 1)
        have k2 := kp_cell (HM2.out.bf.cell 2)
        have hne := kp_ne w17
        have HStx := Lib.hid (fun (x : Cls (Kp w17)) => (HSt.out x.w _ _ _ (HM2.out.next0 (.ofBelow x.h)).rg).mono fun _ _ p => And.intro p.1 p.2.below0)
        by_cases hJb : J = befN psi n
        · skip
          subst hJb
          refine wp_region_kp (by kernel_rfl) (by kernel_rfl) ?_
          repeat (go_big_quiet_step ((rename_i x; exact kp_call x (HStx.out x))))
          with_reducible refine wpQuiet_nil ?_
          rintro _ ⟨y0, rfl⟩
          have HM3 := Lib.hid (HM2.out.next0 (.ofBelow y0.h))
          clear k0 k1 k2 hne HStx
          generalize y0.w = w18 at *
          clear y0
          have hmv : mvdN P.l psi (n + 1) = mvdN P.l psi n := by rw [mvdN, if_pos HJ.out]
          rw [← hmv] at HM3
          clear hmv
          have HM5 := HM3
          go_upto_region 24 with fail
          clear HM2 HM3
          go_wp2_with fail
          go_loopw [111] (fun z wr => ∃ i : Nat, i ≤ P.l ∧ z = .int .i64 (i : Int) ∧ Evm w kb pb mb sb lb bb q a P n (befN psi n) (befN psi n) (n % psi + 1) D3 (mvdN P.l psi (n + 1)) (stpL P.l psi n (stayN P.l psi n) i) wr) (fun z _ => P.l - (intOf z).toNat)
          case atStart => exact ⟨0, by omega, rfl, by rw [stpL_zero (stayN_len _ _ _)]; exact HM5.out⟩
          case round =>
            obtain ⟨i, hi, rfl, hm⟩ := hrel
            have HI := Lib.hid hm
            clear hm HM5
            by_cases hil : i < P.l
            · have il : (i : Int) < (P.l : Int) := by omega
              have HSl1 := Lib.hid (slot7 HOK.out (befN psi n) i hil)
              have HSl2 := Lib.hid (slot7 HOK.out (befN psi n) i hil)
              obtain ⟨s1, hs1⟩ : ∃ s1, s1 = slotN P.l (befN psi n) i := ⟨_, rfl⟩
              obtain ⟨s2, hs2⟩ : ∃ s2, s2 = slotN P.l (befN psi n) i := ⟨_, rfl⟩
              rw [← hs1] at HSl1
              rw [← hs2] at HSl2
              obtain ⟨v1, hv1⟩ : ∃ v1, v1 = newStay P.l psi n i (stayN P.l psi n) := ⟨_, rfl⟩
              have hvZ : v1 ≤ (P.l + 1) * psi := by rw [hv1]; exact (even_all HLL.out.2 HLL.out.1 HPS.out.2.1 HPS.out.2.2 (show n + 1 ≤ 120 by omega) (by omega)).1 _ (newStay_mem hil)
              have hv2 : v1 = if s1 = s2 then (stayN P.l psi n).getD i 0 + 1 else 1 := by rw [hv1, hs1, hs2]; unfold newStay; rw [← HJ.out]
              have hst := stpL_set (psi := psi) (n := n) (st := stayN P.l psi n) hil
              have hg1 := stpL_get1 (psi := psi) (n := n) (st := stayN P.l psi n) hil
              rw [← hv1] at hst hg1
              have HV1 := Lib.hid (And.intro hst (And.intro hg1 hvZ))
              have HSS := Lib.hid (hs1.trans hs2.symm)
              clear hs1 hs2 hv1 hst hg1 hvZ
              have k0 := kp_cell (HI.out.ls.cell 0)
              have k1 := kp_cell (HI.out.ls.cell 1)
              have k2 := kp_cell (HI.out.ls.cell 2)
              have k3 := kp_cell (HI.out.plan.cell 1)
              have hne := kp_ne wr
              have HStx := Lib.hid (fun (x : Cls (Kp wr)) => (HSt.out x.w _ _ _ (HI.out.next0 (.ofBelow x.h)).rg).mono fun _ _ p => And.intro p.1 p.2.below0)
              go_upto_region 27 with fail
              have hc : s1 = s2 := HSS.out
              · skip
                subst hc
                rw [if_pos rfl] at hv2
                refine wp_region_kp (by kernel_rfl) (by kernel_rfl) ?_
                repeat (go_big_quiet_step ((rename_i x; first | with_reducible exact kp_call x (HStx.out x) | with_reducible exact kp_call x (HSl1.out _) | with_reducible exact kp_call x (HSl2.out _))))
                with_reducible refine wpQuiet_nil ?_
                rintro _ ⟨y0, rfl⟩
                have HI2 := Lib.hid (HI.out.next0 (.ofBelow y0.h))
                clear k0 k1 k2 k3 hne HStx
                generalize y0.w = w20 at *
                clear y0
                obtain ⟨t, ht⟩ : ∃ t, t = (stayN P.l psi n).getD i 0 := ⟨_, rfl⟩
                have ht9 : t ≤ n := by rw [ht]; exact getD_le (stayN_le P.l psi n)
                have cm := (HI2.out.sy.cell i).trans (rowL_get (stpL_get hil))
                rw [← ht] at cm hv2
                have hwt : IntKind.i64.wrap ((t : Int) + 1) = (t : Int) + 1 := IntWalk.i64_in _ (by omega)
                clear ht
                have fz := HI2.out.sy.frozen i
                have HI3 := HI2.out.setS i v1 ⟨HSFF.out.1, HSFF.out.2.1, HSFF.out.2.2.1⟩ (Ne.symm HSFF.out.2.2.2) HLF.out.2.2.2.2 HBF.out.2.2.2.2.1
                rw [HV1.out.1] at HI3
                have HI3 := Lib.hid HI3
                have hvi : (v1 : Int) = ((t : Int) + 1) := by rw [hv2]; rfl
                rw [hvi] at HI3
                have HVI := Lib.hid hvi
                clear hvi hv2
                go_upto_region 30 with fail
                generalize (w20.setCell ⟨sb, i, none⟩ (.int .i64 ((t : Int) + 1))) = w21 at *
                obtain ⟨Z, hZ⟩ : ∃ Z, Z = (P.l + 1) * psi := ⟨_, rfl⟩
                have hZi : ((P.l : Int) + 1) * (psi : Int) = (Z : Int) := by rw [hZ]; push_cast; rfl
                have hvZ := HV1.out.2.2
                rw [← hZ] at hvZ
                have hZ9 : Z ≤ 24 := by
                  rw [hZ]
                  exact Nat.le_trans (Nat.mul_le_mul (show P.l + 1 ≤ 6 by omega) HPS.out.2.2) (by decide)
                have hngt : ¬ ((v1 : Int) > (Z : Int)) := by omega
                have hngt2 : ¬ ((Z : Int) < (v1 : Int)) := by omega
                have k0 := kp_cell ((HI3.out.sy.cell i).trans (rowL_get HV1.out.2.1))
                have k1 := kp_cell (HI3.out.plan.cell 1)
                have k3 := kp_cell (HI3.out.plan.cell 3)
                have hne := kp_ne w21
                rw [show (P.psi : Int) = (psi : Int) from HPS.out.1] at k3
                have hwl : IntKind.i64.wrap ((P.l : Int) + 1) = (P.l : Int) + 1 := IntWalk.i64_in _ (by omega)
                have hwz : IntKind.i64.wrap (Z : Int) = (Z : Int) := IntWalk.i64_in _ (by omega)
                clear HI2 fz hZ hvZ hZ9
                refine wp_region_kp (by kernel_rfl) (by kernel_rfl) ?_
                repeat (go_big_quiet_step (fail))
                with_reducible refine wpQuiet_nil ?_
                rintro _ ⟨y0, rfl⟩
                have HI4 := Lib.hid (HI3.out.next0 (.ofBelow y0.h))
                clear k0 k1 k3 hne HI3
                generalize y0.w = w22 at *
                clear y0
                go_wp2_with fail
                go_roundw
                case rel => exact ⟨i + 1, by omega, by go_num, HI4.out⟩
                case measure => simp [intOf]; omega
            · obtain rfl : i = P.l := by omega
              have il : ¬ ((P.l : Int) < (P.l : Int)) := by omega
              go_wp2_with fail
              refine (HSt.out _ _ _ _ HI.out.rg).mono ?_
              rintro e w20 ⟨rfl, g20⟩
              have HI2 := Lib.hid (HI.out.next0 g20)
              clear g20 HI
              have f0 := HI2.out.ls.frozen 0
              have f1 := HI2.out.ls.frozen 1
              have f2 := HI2.out.ls.frozen 2
              have c0 := HI2.out.ls.cell 0
              have c1 := HI2.out.ls.cell 1
              have c2 := HI2.out.ls.cell 2
              go_wp2_with fail
              clear f0 f1 f2 c0 c1 c2
              refine ⟨⟨n + 1, D3, by omega, rfl, ?_⟩, by simp [intOf]; omega⟩
              have hbs := (bef_step psi n HPS.out.2.1).2.2
              rw [← HJ.out] at hbs
              exact evn_next HI2.out hbs.1 hbs.2 HBd.out HG3.out.1 HG3.out.2 HLF.out ⟨HPW.out, HMF.out.1, HSFF.out.1⟩ stpL_all
        · skip
          refine wp_region_kp (by kernel_rfl) (by kernel_rfl) ?_
          repeat (go_big_quiet_step ((rename_i x; exact kp_call x (HStx.out x))))
          with_reducible refine wpQuiet_nil ?_
          rintro _ ⟨y0, rfl⟩
          have HM3 := Lib.hid (HM2.out.next0 (.ofBelow y0.h))
          clear k0 k1 k2 hne HStx
          generalize y0.w = w18 at *
          clear y0
          obtain ⟨K0, hK0⟩ : ∃ K0, K0 = P.l - befN psi n % (P.l + 1) := ⟨_, rfl⟩
          have hgK : gAt P.l (befN psi n) = (K0 : Int) := by rw [gAt_N, hK0]
          have hmv : mvdN P.l psi (n + 1) = (mvdN P.l psi n).set K0 ((mvdN P.l psi n).getD K0 0 + 1) := by
            rw [mvdN, if_neg (by rw [← HJ.out]; exact fun e => hJb e.symm), hK0]; rfl
          have hkl : K0 < P.l + 1 := by omega
          have hkl2 : (K0 : Int) < (P.l : Int) + 1 := by omega
          obtain ⟨u, hu⟩ : ∃ u, u = (mvdN P.l psi n).getD K0 0 := ⟨_, rfl⟩
          have hu9 : u ≤ n := by rw [hu]; exact getD_le (mvdN_le P.l psi n)
          have cm := (HM3.out.mv.cell K0).trans (rowL_get (getD_incN (by rw [mvdN_len]; omega)))
          rw [← hu] at cm hmv
          have HM4 := Lib.hid (HM3.out.setM K0 (u + 1) ⟨HMF.out.1, HMF.out.2.1, HMF.out.2.2⟩ HSFF.out.2.2.2 HLF.out.2.2.2.1 HBF.out.2.2.2.1)
          rw [← hmv] at HM4
          have HM4 := Lib.hid (show Evm w kb pb mb sb lb bb q a P n J (befN psi n) (n % psi + 1) D3 (mvdN P.l psi (n + 1)) (stayN P.l psi n) (w18.setCell ⟨mb, K0, none⟩ (.int .i64 ((u : Int) + 1))) from HM4.out)
          have fz := HM3.out.mv.frozen K0
          have hwu : IntKind.i64.wrap ((u : Int) + 1) = (u : Int) + 1 := IntWalk.i64_in _ (by omega)
          clear hmv hK0 hu
          rw [hgK]
          go_upto_region 24 with fail
          have HM5 := HM4
          clear cm fz hwu hkl hkl2 hu9 hgK HM4
          generalize (w18.setCell ⟨mb, K0, none⟩ (.int .i64 ((u : Int) + 1))) = w19 at *
          clear HM2 HM3
          go_wp2_with fail
          go_loopw [111] (fun z wr => ∃ i : Nat, i ≤ P.l ∧ z = .int .i64 (i : Int) ∧ Evm w kb pb mb sb lb bb q a P n J (befN psi n) (n % psi + 1) D3 (mvdN P.l psi (n + 1)) (stpL P.l psi n (stayN P.l psi n) i) wr) (fun z _ => P.l - (intOf z).toNat)
          case atStart => exact ⟨0, by omega, rfl, by rw [stpL_zero (stayN_len _ _ _)]; exact HM5.out⟩
          case round =>
            obtain ⟨i, hi, rfl, hm⟩ := hrel
            have HI := Lib.hid hm
            clear hm HM5
            by_cases hil : i < P.l
            · have il : (i : Int) < (P.l : Int) := by omega
              have HSl1 := Lib.hid (slot7 HOK.out J i hil)
              have HSl2 := Lib.hid (slot7 HOK.out (befN psi n) i hil)
              obtain ⟨s1, hs1⟩ : ∃ s1, s1 = slotN P.l J i := ⟨_, rfl⟩
              obtain ⟨s2, hs2⟩ : ∃ s2, s2 = slotN P.l (befN psi n) i := ⟨_, rfl⟩
              rw [← hs1] at HSl1
              rw [← hs2] at HSl2
              obtain ⟨v1, hv1⟩ : ∃ v1, v1 = newStay P.l psi n i (stayN P.l psi n) := ⟨_, rfl⟩
              have hvZ : v1 ≤ (P.l + 1) * psi := by rw [hv1]; exact (even_all HLL.out.2 HLL.out.1 HPS.out.2.1 HPS.out.2.2 (show n + 1 ≤ 120 by omega) (by omega)).1 _ (newStay_mem hil)
              have hv2 : v1 = if s1 = s2 then (stayN P.l psi n).getD i 0 + 1 else 1 := by rw [hv1, hs1, hs2]; unfold newStay; rw [← HJ.out]
              have hst := stpL_set (psi := psi) (n := n) (st := stayN P.l psi n) hil
              have hg1 := stpL_get1 (psi := psi) (n := n) (st := stayN P.l psi n) hil
              rw [← hv1] at hst hg1
              have HV1 := Lib.hid (And.intro hst (And.intro hg1 hvZ))
              skip
              clear hs1 hs2 hv1 hst hg1 hvZ
              have k0 := kp_cell (HI.out.ls.cell 0)
              have k1 := kp_cell (HI.out.ls.cell 1)
              have k2 := kp_cell (HI.out.ls.cell 2)
              have k3 := kp_cell (HI.out.plan.cell 1)
              have hne := kp_ne wr
              have HStx := Lib.hid (fun (x : Cls (Kp wr)) => (HSt.out x.w _ _ _ (HI.out.next0 (.ofBelow x.h)).rg).mono fun _ _ p => And.intro p.1 p.2.below0)
              go_upto_region 27 with fail
              by_cases hc : s1 = s2
              · skip
                subst hc
                rw [if_pos rfl] at hv2
                refine wp_region_kp (by kernel_rfl) (by kernel_rfl) ?_
                repeat (go_big_quiet_step ((rename_i x; first | with_reducible exact kp_call x (HStx.out x) | with_reducible exact kp_call x (HSl1.out _) | with_reducible exact kp_call x (HSl2.out _))))
                with_reducible refine wpQuiet_nil ?_
                rintro _ ⟨y0, rfl⟩
                have HI2 := Lib.hid (HI.out.next0 (.ofBelow y0.h))
                clear k0 k1 k2 k3 hne HStx
                generalize y0.w = w20 at *
                clear y0
                obtain ⟨t, ht⟩ : ∃ t, t = (stayN P.l psi n).getD i 0 := ⟨_, rfl⟩
                have ht9 : t ≤ n := by rw [ht]; exact getD_le (stayN_le P.l psi n)
                have cm := (HI2.out.sy.cell i).trans (rowL_get (stpL_get hil))
                rw [← ht] at cm hv2
                have hwt : IntKind.i64.wrap ((t : Int) + 1) = (t : Int) + 1 := IntWalk.i64_in _ (by omega)
                clear ht
                have fz := HI2.out.sy.frozen i
                have HI3 := HI2.out.setS i v1 ⟨HSFF.out.1, HSFF.out.2.1, HSFF.out.2.2.1⟩ (Ne.symm HSFF.out.2.2.2) HLF.out.2.2.2.2 HBF.out.2.2.2.2.1
                rw [HV1.out.1] at HI3
                have HI3 := Lib.hid HI3
                have hvi : (v1 : Int) = ((t : Int) + 1) := by rw [hv2]; rfl
                rw [hvi] at HI3
                have HVI := Lib.hid hvi
                clear hvi hv2
                go_upto_region 30 with fail
                generalize (w20.setCell ⟨sb, i, none⟩ (.int .i64 ((t : Int) + 1))) = w21 at *
                obtain ⟨Z, hZ⟩ : ∃ Z, Z = (P.l + 1) * psi := ⟨_, rfl⟩
                have hZi : ((P.l : Int) + 1) * (psi : Int) = (Z : Int) := by rw [hZ]; push_cast; rfl
                have hvZ := HV1.out.2.2
                rw [← hZ] at hvZ
                have hZ9 : Z ≤ 24 := by
                  rw [hZ]
                  exact Nat.le_trans (Nat.mul_le_mul (show P.l + 1 ≤ 6 by omega) HPS.out.2.2) (by decide)
                have hngt : ¬ ((v1 : Int) > (Z : Int)) := by omega
                have hngt2 : ¬ ((Z : Int) < (v1 : Int)) := by omega
                have k0 := kp_cell ((HI3.out.sy.cell i).trans (rowL_get HV1.out.2.1))
                have k1 := kp_cell (HI3.out.plan.cell 1)
                have k3 := kp_cell (HI3.out.plan.cell 3)
                have hne := kp_ne w21
                rw [show (P.psi : Int) = (psi : Int) from HPS.out.1] at k3
                have hwl : IntKind.i64.wrap ((P.l : Int) + 1) = (P.l : Int) + 1 := IntWalk.i64_in _ (by omega)
                have hwz : IntKind.i64.wrap (Z : Int) = (Z : Int) := IntWalk.i64_in _ (by omega)
                clear HI2 fz hZ hvZ hZ9
                refine wp_region_kp (by kernel_rfl) (by kernel_rfl) ?_
                repeat (go_big_quiet_step (fail))
                with_reducible refine wpQuiet_nil ?_
                rintro _ ⟨y0, rfl⟩
                have HI4 := Lib.hid (HI3.out.next0 (.ofBelow y0.h))
                clear k0 k1 k3 hne HI3
                generalize y0.w = w22 at *
                clear y0
                go_wp2_with fail
                go_roundw
                case rel => exact ⟨i + 1, by omega, by go_num, HI4.out⟩
                case measure => simp [intOf]; omega
              · skip
                rw [if_neg hc] at hv2
                refine wp_region_kp (by kernel_rfl) (by kernel_rfl) ?_
                repeat (go_big_quiet_step ((rename_i x; first | with_reducible exact kp_call x (HStx.out x) | with_reducible exact kp_call x (HSl1.out _) | with_reducible exact kp_call x (HSl2.out _))))
                with_reducible refine wpQuiet_nil ?_
                rintro _ ⟨y0, rfl⟩
                have HI2 := Lib.hid (HI.out.next0 (.ofBelow y0.h))
                clear k0 k1 k2 k3 hne HStx
                generalize y0.w = w20 at *
                clear y0
                obtain ⟨t, ht⟩ : ∃ t, t = (stayN P.l psi n).getD i 0 := ⟨_, rfl⟩
                have ht9 : t ≤ n := by rw [ht]; exact getD_le (stayN_le P.l psi n)
                have cm := (HI2.out.sy.cell i).trans (rowL_get (stpL_get hil))
                rw [← ht] at cm
                have hwt : IntKind.i64.wrap ((t : Int) + 1) = (t : Int) + 1 := IntWalk.i64_in _ (by omega)
                clear ht
                have fz := HI2.out.sy.frozen i
                have HI3 := HI2.out.setS i v1 ⟨HSFF.out.1, HSFF.out.2.1, HSFF.out.2.2.1⟩ (Ne.symm HSFF.out.2.2.2) HLF.out.2.2.2.2 HBF.out.2.2.2.2.1
                rw [HV1.out.1] at HI3
                have HI3 := Lib.hid HI3
                have hvi : (v1 : Int) = 1 := by rw [hv2]; rfl
                rw [hvi] at HI3
                have HVI := Lib.hid hvi
                clear hvi hv2
                go_upto_region 30 with fail
                generalize (w20.setCell ⟨sb, i, none⟩ (.int .i64 1)) = w21 at *
                obtain ⟨Z, hZ⟩ : ∃ Z, Z = (P.l + 1) * psi := ⟨_, rfl⟩
                have hZi : ((P.l : Int) + 1) * (psi : Int) = (Z : Int) := by rw [hZ]; push_cast; rfl
                have hvZ := HV1.out.2.2
                rw [← hZ] at hvZ
                have hZ9 : Z ≤ 24 := by
                  rw [hZ]
                  exact Nat.le_trans (Nat.mul_le_mul (show P.l + 1 ≤ 6 by omega) HPS.out.2.2) (by decide)
                have hngt : ¬ ((v1 : Int) > (Z : Int)) := by omega
                have hngt2 : ¬ ((Z : Int) < (v1 : Int)) := by omega
                have k0 := kp_cell ((HI3.out.sy.cell i).trans (rowL_get HV1.out.2.1))
                have k1 := kp_cell (HI3.out.plan.cell 1)
                have k3 := kp_cell (HI3.out.plan.cell 3)
                have hne := kp_ne w21
                rw [show (P.psi : Int) = (psi : Int) from HPS.out.1] at k3
                have hwl : IntKind.i64.wrap ((P.l : Int) + 1) = (P.l : Int) + 1 := IntWalk.i64_in _ (by omega)
                have hwz : IntKind.i64.wrap (Z : Int) = (Z : Int) := IntWalk.i64_in _ (by omega)
                clear HI2 fz hZ hvZ hZ9
                refine wp_region_kp (by kernel_rfl) (by kernel_rfl) ?_
                repeat (go_big_quiet_step (fail))
                with_reducible refine wpQuiet_nil ?_
                rintro _ ⟨y0, rfl⟩
                have HI4 := Lib.hid (HI3.out.next0 (.ofBelow y0.h))
                clear k0 k1 k3 hne HI3
                generalize y0.w = w22 at *
                clear y0
                go_wp2_with fail
                go_roundw
                case rel => exact ⟨i + 1, by omega, by go_num, HI4.out⟩
                case measure => simp [intOf]; omega
            · obtain rfl : i = P.l := by omega
              have il : ¬ ((P.l : Int) < (P.l : Int)) := by omega
              go_wp2_with fail
              refine (HSt.out _ _ _ _ HI.out.rg).mono ?_
              rintro e w20 ⟨rfl, g20⟩
              have HI2 := Lib.hid (HI.out.next0 g20)
              clear g20 HI
              have f0 := HI2.out.ls.frozen 0
              have f1 := HI2.out.ls.frozen 1
              have f2 := HI2.out.ls.frozen 2
              have c0 := HI2.out.ls.cell 0
              have c1 := HI2.out.ls.cell 1
              have c2 := HI2.out.ls.cell 2
              go_wp2_with fail
              clear f0 f1 f2 c0 c1 c2
              refine ⟨⟨n + 1, D3, by omega, rfl, ?_⟩, by simp [intOf]; omega⟩
              have hbs := (bef_step psi n HPS.out.2.1).2.2
              rw [← HJ.out] at hbs
              exact evn_next HI2.out hbs.1 hbs.2 HBd.out HG3.out.1 HG3.out.2 HLF.out ⟨HPW.out, HMF.out.1, HSFF.out.1⟩ stpL_all
      · obtain rfl : n = M := by omega
        have ik : ¬ ((n : Int) < (n : Int)) := by omega
        obtain ⟨m0, hm0⟩ : ∃ m0, (mvdN P.l psi n)[0]? = some m0 := ⟨_, List.getElem?_eq_getElem (by rw [mvdN_len]; omega)⟩
        have hmem0 : m0 ∈ mvdN P.l psi n := List.mem_of_getElem? hm0
        have HEV := Lib.hid (mvd_even HLL.out.2 HLL.out.1 HPS.out.2.1 HPS.out.2.2 (show n ≤ 120 from hM12))
        have HME := Lib.hid hmem0
        have hz0 : (0 : Int) < (P.l : Int) + 1 := by omega
        go_upto_region 35 with fail
        have k0 := kp_cell ((HEn.out.mv.cell 0).trans (rowL_get hm0))
        have hne := kp_ne wr
        clear hm0 hmem0
        refine wp_region_kp (by kernel_rfl) (by kernel_rfl) ?_
        repeat (go_big_quiet_step (fail))
        with_reducible refine wpQuiet_nil ?_
        rintro _ ⟨y0, rfl⟩
        have HE1 := Lib.hid (HEn.out.next0 (.ofBelow y0.h))
        clear k0 hne HEn
        generalize y0.w = w12 at *
        clear y0
        go_wp2_with fail
        go_loopw [19, 20, 158] (fun lv hv z wr => ∃ k lo hi : Nat, k ≤ P.l + 1 ∧ z = .int .i64 (k : Int) ∧ lv = .int .i64 (lo : Int) ∧ hv = .int .i64 (hi : Int) ∧ lo ∈ mvdN P.l psi n ∧ hi ∈ mvdN P.l psi n ∧ wr = w12) (fun _ _ z _ => P.l + 1 - (intOf z).toNat)
        case atStart => exact ⟨0, m0, m0, by omega, rfl, rfl, rfl, HME.out, HME.out, rfl⟩
        case round =>
          obtain ⟨k, lo, hi, hk, rfl, rfl, rfl, hlo, hhi, rfl⟩ := hrel
          have HLH := Lib.hid (And.intro hlo hhi)
          clear hlo hhi
          by_cases hkl : k < P.l + 1
          · have il : (k : Int) < (P.l : Int) + 1 := by omega
            obtain ⟨x2, hx2⟩ : ∃ x, (mvdN P.l psi n)[k]? = some x := ⟨_, List.getElem?_eq_getElem (by rw [mvdN_len]; omega)⟩
            have HX2 := Lib.hid (List.mem_of_getElem? hx2)
            have cm := (HE1.out.mv.cell k).trans (rowL_get hx2)
            obtain ⟨lo2, hl2⟩ : ∃ m, m = min lo x2 := ⟨_, rfl⟩
            obtain ⟨hi2, hh2⟩ : ∃ m, m = max hi x2 := ⟨_, rfl⟩
            have hmn := minIs7 Try.prog lo lo2 x2 (x2 : Int) rfl hl2
            have hmx := maxIs7 Try.prog hi hi2 x2 hh2
            have HL2 := Lib.hid (show lo2 ∈ mvdN P.l psi n from by
              rw [hl2]
              rcases Nat.le_total lo x2 with q | q
              · rw [Nat.min_eq_left q]; exact HLH.out.1
              · rw [Nat.min_eq_right q]; exact HX2.out)
            have HH2 := Lib.hid (show hi2 ∈ mvdN P.l psi n from by
              rw [hh2]
              rcases Nat.le_total hi x2 with q | q
              · rw [Nat.max_eq_right q]; exact HX2.out
              · rw [Nat.max_eq_left q]; exact HLH.out.2)
            clear hx2 hl2 hh2
            go_wp2_with fail
            go_roundw
            case rel => exact ⟨k + 1, lo2, hi2, by omega, by go_num, rfl, rfl, HL2.out, HH2.out, by trivial⟩
            case measure => simp [intOf]; omega
          · obtain rfl : k = P.l + 1 := by omega
            have il : ¬ (((P.l + 1 : Nat) : Int) < (P.l : Int) + 1) := by omega
            have h9 := mvdN_le P.l psi n hi HLH.out.2
            have h8 := mvdN_le P.l psi n lo HLH.out.1
            have hev := HEV.out hi HLH.out.2 lo HLH.out.1
            have hw : IntKind.i64.wrap ((hi : Int) - (lo : Int)) = (hi : Int) - (lo : Int) := IntWalk.i64_in _ (by omega)
            have hle : (hi : Int) - (lo : Int) ≤ 1 := by omega
            go_wp2_with fail
            go_ret
            exact ⟨rfl, HE1.out.gr⟩
theorem walk_RingEven (a1 : List Int) (v : Value) (xs : List Int) {w : World} (l1 : a1.length = 4) (w1 : ∀ x ∈ a1, (Lit.int .i64 x).wf = true) (h : SlI .u8 w v xs) (hx : ∀ x ∈ xs, (Lit.int .u8 x).wf = true) :
    Calls Try.prog 3 #[.agg (a1.map (Value.int .i64)).toArray, v] w fun e w' => e = .returned (.bool true) ∧ Below w.heap.size w w' := by
  obtain ⟨x, y, z, t, rfl⟩ : ∃ x y z t, a1 = [x, y, z, t] := by
    match a1, l1 with
    | [x, y, z, t], _ => exact ⟨x, y, z, t, rfl⟩
  exact (even_law x y z t v xs h (fun x hx2 => bounds_u8 (hx x hx2))).mono fun _ _ q => ⟨q.1, q.2.below0⟩
end Go.Proofs.Ytdgcninmpcmdcaa
