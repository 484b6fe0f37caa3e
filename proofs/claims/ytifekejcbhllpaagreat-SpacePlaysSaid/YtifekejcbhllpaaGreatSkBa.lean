/-
  SkBa: FlP, FlQ, FlR, FlVb.
-/
import Derived.Test.YtifekejcbhllpaaGreatSkAz
import Derived.Test.YtifekejcbhllpaaGreatSkAu
import Derived.Test.YtifekejcbhllpaaGreatSkAr

set_option linter.unusedVariables false

/-
  Layer 9: a list in memory; what is asked of it.
-/
namespace Go.Proofs.YtifekejcbhllpaaGreat
open Go.RowKit
set_option linter.unusedVariables false

/-- The blocks of a list. -/
structure FlA where
  fb : Nat
  br : Nat
  bp : Nat
  cr : Nat
  cp : Nat
  kb : Nat → Nat
  q : Nat → BkA
/-- The blocks of a list's region. -/
def FlA.reg (A : FlA) (q : Nat) : List Nat := A.kb q :: (A.q q).all
def FlA.all (A : FlA) (R : Nat) : List Nat := [A.fb, A.br, A.bp] ++ (List.range R).flatMap A.reg
def keyQ (C : CfgZ) (q : Nat) : Nat := (C.key + q) % 18446744073709551616
def permRow (C : CfgZ) (q : Nat) : Array Value := #[.int .i64 C.l, .int .i64 (halfN (cL C) : Nat), .int .u16 (keyN (keyQ C q) 0 : Nat), .int .u16 (keyN (keyQ C q) 1 : Nat), .int .u16 (keyN (keyQ C q) 2 : Nat), .int .u16 (keyN (keyQ C q) 3 : Nat)]
/-- Where a region's line is. -/
noncomputable def toC (C : CfgZ) (q i : Nat) : Nat := goes (halfN (cL C)) [keyN (keyQ C q) 0, keyN (keyQ C q) 1, keyN (keyQ C q) 2, keyN (keyQ C q) 3] (cL C) i
def flRow (A : FlA) (C : CfgZ) : Array Value := #[.int .i64 C.r, .int .i64 C.l, .int .i64 C.s, .int .i64 C.psi, .int .u64 (C.key : Int), .slice (some ⟨A.br, 0, none⟩) (cR C) A.cr, .slice (some ⟨A.bp, 0, none⟩) (cR C) A.cp]
structure FlIs (w : World) (A : FlA) (a : DevA) (C : CfgZ) (B : Nat → BkS) (m : Nat) (j c : Nat → Nat) : Prop where
  ok : OkC C
  head : Holds w A.fb (flRow A C) 136
  regs : ∀ q, q < cR C → w.cell? ⟨A.br, q, none⟩ = some (.pointer (some ⟨A.kb q, 0, none⟩))
  perms : ∀ q, q < cR C → ∀ i v, (permRow C q)[i]? = some v → w.cell? ⟨A.bp, q * 6 + i, none⟩ = some v
  rg : ∀ q, q < cR C → RgIs w (A.kb q) (A.q q) a (regC C q) (B q) m (j q) (c q)
  dj : ∀ q q2, q < cR C → q2 < cR C → q ≠ q2 → ∀ x ∈ A.reg q, x ∉ A.reg q2
  nr : ∀ q, q < cR C → ∀ x ∈ A.reg q, x ≠ A.fb ∧ x ≠ A.br ∧ x ≠ A.bp
  na : A.fb ∉ a.all ∧ A.br ∉ a.all ∧ A.bp ∉ a.all
section
variable {w w' : World} {A : FlA} {a : DevA} {C : CfgZ} {B : Nat → BkS} {m : Nat} {j c : Nat → Nat} {D : DevS} {cc : Nat}
theorem FlA.mem {R q x : Nat} (hq : q < R) (hx : x ∈ A.reg q) : x ∈ A.all R := by
  unfold FlA.all
  rw [List.mem_append]
  exact .inr (List.mem_flatMap.2 ⟨q, List.mem_range.2 hq, hx⟩)
theorem FlA.mem3 {R : Nat} : A.fb ∈ A.all R ∧ A.br ∈ A.all R ∧ A.bp ∈ A.all R := by
  unfold FlA.all
  simp
theorem FlA.cases {R x : Nat} (h : x ∈ A.all R) : x = A.fb ∨ x = A.br ∨ x = A.bp ∨ ∃ q, q < R ∧ x ∈ A.reg q := by
  unfold FlA.all at h
  rw [List.mem_append] at h
  rcases h with h | h
  · simp only [List.mem_cons, List.not_mem_nil, or_false] at h
    rcases h with h | h | h
    · exact .inl h
    · exact .inr (.inl h)
    · exact .inr (.inr (.inl h))
  · obtain ⟨q, h1, h2⟩ := List.mem_flatMap.1 h
    exact .inr (.inr (.inr ⟨q, List.mem_range.1 h1, h2⟩))
theorem FlIs.gr {bs : List Nat} (h : FlIs w A a C B m j c) (g : Gr bs w w') (hn : ∀ x ∈ A.all (cR C), x ∉ bs) : FlIs w' A a C B m j c := by
  obtain ⟨n1, n2, n3, _⟩ := h.ok.nums
  obtain ⟨m1, m2, m3⟩ := FlA.mem3 (A := A) (R := cR C)
  refine ⟨h.ok, h.head.gr g (hn _ m1), fun q hq => ?_, fun q hq i v hi => ?_, fun q hq => (h.rg q hq).gr g (hn _ (FlA.mem hq (by simp [FlA.reg]))) (fun b hb => hn b (FlA.mem hq (by simp [FlA.reg, hb]))), h.dj, h.nr, h.na⟩
  · exact (World.cell?_of_block (w := w) (g.block _ (World.block_lt_of_cell? w _ (h.regs q hq)) (hn _ m2))).trans (h.regs q hq)
  · exact (World.cell?_of_block (w := w) (g.block _ (World.block_lt_of_cell? w _ (h.perms q hq i v hi)) (hn _ m3))).trans (h.perms q hq i v hi)
theorem FlIs.gr0 (h : FlIs w A a C B m j c) (g : Gr [] w w') : FlIs w' A a C B m j c := h.gr g (by simp)
theorem FlIs.kp (h : FlIs w A a C B m j c) (x : Kp w w') : FlIs w' A a C B m j c := h.gr0 (Gr.ofBelow x)
theorem FlIs.moreN (h : FlIs w A a C B m j c) {m' : Nat} (hm : m ≤ m') : FlIs w A a C B m' j c := ⟨h.ok, h.head, h.regs, h.perms, fun q hq => (h.rg q hq).moreN hm, h.dj, h.nr, h.na⟩
theorem FlIs.lt (h : FlIs w A a C B m j c) : ∀ x ∈ A.all (cR C), x < w.heap.size := by
  intro x hx
  rcases FlA.cases hx with rfl | rfl | rfl | ⟨q, hq, hx⟩
  · exact h.head.lt
  · exact World.block_lt_of_cell? w _ (h.regs 0 (by have := h.ok.nums; omega))
  · exact World.block_lt_of_cell? w _ (h.perms 0 (by have := h.ok.nums; omega) 0 _ rfl)
  · unfold FlA.reg at hx
    rcases List.mem_cons.1 hx with rfl | hx
    · exact (h.rg q hq).head.lt
    · exact (h.rg q hq).bk.lt _ hx
/-- A region has moved on. -/
theorem FlIs.upd {q0 : Nat} {B' : BkS} {j' c' m' : Nat} (h : FlIs w A a C B m j c) (hq : q0 < cR C) (g : Gr (A.kb q0 :: ((A.q q0).all ++ a.all)) w w') (k : RgIs w' (A.kb q0) (A.q q0) a (regC C q0) B' m' j' c') (hm : m ≤ m') : FlIs w' A a C (updN B q0 B') m' (updN j q0 j') (updN c q0 c') := by
  have hmem : ∀ x, x ∈ A.kb q0 :: ((A.q q0).all ++ a.all) → x ∈ A.reg q0 ∨ x ∈ a.all := fun x hx => by
    rcases List.mem_cons.1 hx with rfl | hx
    · exact .inl (by simp [FlA.reg])
    · rcases List.mem_append.1 hx with hx | hx
      · exact .inl (by simp [FlA.reg, hx])
      · exact .inr hx
  have n1 : A.fb ∉ A.kb q0 :: ((A.q q0).all ++ a.all) := fun e => (hmem _ e).elim (fun e => (h.nr q0 hq _ e).1 rfl) h.na.1
  have n2 : A.br ∉ A.kb q0 :: ((A.q q0).all ++ a.all) := fun e => (hmem _ e).elim (fun e => (h.nr q0 hq _ e).2.1 rfl) h.na.2.1
  have n3 : A.bp ∉ A.kb q0 :: ((A.q q0).all ++ a.all) := fun e => (hmem _ e).elim (fun e => (h.nr q0 hq _ e).2.2 rfl) h.na.2.2
  refine ⟨h.ok, h.head.gr g n1, fun q hq1 => ?_, fun q hq1 i v hi => ?_, fun q hq1 => ?_, h.dj, h.nr, h.na⟩
  · exact (World.cell?_of_block (w := w) (g.block _ (World.block_lt_of_cell? w _ (h.regs q hq1)) n2)).trans (h.regs q hq1)
  · exact (World.cell?_of_block (w := w) (g.block _ (World.block_lt_of_cell? w _ (h.perms q hq1 i v hi)) n3)).trans (h.perms q hq1 i v hi)
  · by_cases e : q = q0
    · subst e
      rw [updN_same, updN_same, updN_same]
      exact k
    · rw [updN_other _ _ e, updN_other _ _ e, updN_other _ _ e]
      have hr := h.rg q hq1
      refine ((hr.gr g ?_ ?_).moreN hm)
      · intro x
        exact (hmem _ x).elim (fun x => h.dj q q0 hq1 hq e _ (by simp [FlA.reg]) x) hr.ka
      · intro b hb x
        exact (hmem _ x).elim (fun x => h.dj q q0 hq1 hq e _ (by simp [FlA.reg, hb]) x) (hr.bk.sep b hb)
end
theorem toC_lt {C : CfgZ} (h : OkC C) (q : Nat) {i : Nat} (hi : i < cL C) : toC C q i < cL C := by
  obtain ⟨h1, h2, h3⟩ := halfN_b (cL C) (by have := h.nums; omega)
  exact goes_lt _ _ _ _ hi h3
theorem toC_inj {C : CfgZ} (h : OkC C) (q : Nat) {i i2 : Nat} (hi : i < cL C) (hi2 : i2 < cL C) (e : toC C q i = toC C q i2) : i = i2 := by
  obtain ⟨h1, h2, h3⟩ := halfN_b (cL C) (by have := h.nums; omega)
  exact goes_inj _ _ _ _ _ hi hi2 h3 e
theorem to_call {C : CfgZ} (h : OkC C) (q i : Nat) (hi : i < cL C) (w : World) : Calls Tryz.prog 72 #[.agg (permRow C q), .int .i64 (i : Int)] w fun e w' => e = .returned (.int .i64 ((toC C q i : Nat) : Int)) ∧ Below w.heap.size w w' := by
  obtain ⟨n1, n2, n3, n4, n5, n6, _⟩ := h.nums
  obtain ⟨h1, h2, h3⟩ := halfN_b (cL C) (by omega)
  unfold permRow
  rw [← n2]
  refine to_yes (cL C) (halfN (cL C)) _ _ _ _ i _ w h1 h2 (fun k hk => ?_) hi h3 (by omega) (goes_to _ _ _ _ hi h3)
  simp only [List.mem_cons, List.not_mem_nil, or_false] at hk
  rcases hk with rfl | rfl | rfl | rfl <;> exact keyN_lt _ _
end Go.Proofs.YtifekejcbhllpaaGreat

/-
  Layer 9: Lines, Region, find, of a list that there is.
-/
namespace Go.Proofs.YtifekejcbhllpaaGreat
open Go.RowKit
set_option linter.unusedVariables false

section
variable {w w' : World} {A : FlA} {a : DevA} {C : CfgZ} {B : Nat → BkS} {m : Nat} {j c : Nat → Nat} {D : DevS} {cc : Nat}
theorem FlIs.c0 (h : FlIs w A a C B m j c) : w.cell? ⟨A.fb, 0, none⟩ = some (.int .i64 (cR C : Nat)) := by rw [h.ok.nums.1]; exact h.head.cell 0
theorem FlIs.c1 (h : FlIs w A a C B m j c) : w.cell? ⟨A.fb, 1, none⟩ = some (.int .i64 (cL C : Nat)) := by rw [h.ok.nums.2.1]; exact h.head.cell 1
theorem FlIs.c5 (h : FlIs w A a C B m j c) : w.cell? ⟨A.fb, 5, none⟩ = some (.slice (some ⟨A.br, 0, none⟩) (cR C) A.cr) := h.head.cell 5
theorem FlIs.c6 (h : FlIs w A a C B m j c) : w.cell? ⟨A.fb, 6, none⟩ = some (.slice (some ⟨A.bp, 0, none⟩) (cR C) A.cp) := h.head.cell 6
theorem OkC.mul (h : OkC C) : cR C * cL C ≤ 16384 := by
  obtain ⟨n1, n2, n3, n4, n5, n6, _⟩ := h.nums
  exact Nat.mul_le_mul n4 n6
set_option maxRecDepth 100000 in
set_option maxHeartbeats 4000000 in
theorem flines_in (h : FlIs w A a C B m j c) : Calls Tryz.prog 69 #[.pointer (some ⟨A.fb, 0, none⟩)] w fun e w' => e = .returned (.int .i64 ((cR C * cL C : Nat) : Int)) ∧ Gr [] w w' := by
  have c0 := h.c0
  have c1 := h.c1
  have hm := h.ok.mul
  obtain ⟨R, hR⟩ : ∃ R, R = cR C := ⟨_, rfl⟩
  obtain ⟨L, hL⟩ : ∃ L, L = cL C := ⟨_, rfl⟩
  rw [← hR] at c0 hm ⊢
  rw [← hL] at c1 hm ⊢
  obtain ⟨x, hx⟩ : ∃ x, x = R * L := ⟨_, rfl⟩
  have i1 : IntKind.i64.wrap ((R : Int) * (L : Int)) = (x : Int) := by
    rw [← Int.natCast_mul, ← hx]
    exact IntWalk.i64_in _ (by omega)
  rw [← hx]
  clear h hm hR hL hx
  go_enter Tryz.func69, Tryz.ntmps69
  go_wp2_with fail
  go_quiet (fail)
  go_wp2_with fail
  go_ret
  exact ⟨rfl, (Gr.refl [] w).drewN _⟩
theorem fregion_in (l : Nat) (h : FlIs w A a C B m j c) (hl : l < cR C * cL C) : Calls Tryz.prog 71 #[.pointer (some ⟨A.fb, 0, none⟩), .int .i64 (l : Int)] w fun e w' => e = .returned (.int .i64 ((l / cL C : Nat) : Int)) ∧ Gr [] w w' := by
  have HL := Lib.hid (flines_in h)
  have H := Lib.hid h
  have hm := h.ok.mul
  have hL1 : 1 ≤ cL C := by have := h.ok.nums; omega
  have hL2 : cL C ≤ 1024 := by have := h.ok.nums; omega
  obtain ⟨x, hx⟩ : ∃ x, x = cR C * cL C := ⟨_, rfl⟩
  rw [← hx] at HL hl hm
  obtain ⟨L, hL⟩ : ∃ L, L = cL C := ⟨_, rfl⟩
  rw [← hL] at hL1 hL2 ⊢
  have HLL := Lib.hid hL
  have hlt : (l : Int) < (x : Int) := by omega
  have hn0 : ¬ ((l : Int) < 0) := by omega
  have hng : ¬ ((x : Int) ≤ (l : Int)) := by omega
  have hd : (l : Int) / (L : Int) = ((l / L : Nat) : Int) := by omega
  obtain ⟨d, hdd⟩ : ∃ d, d = l / L := ⟨_, rfl⟩
  rw [← hdd] at hd ⊢
  have hdb : d ≤ 16384 := by rw [hdd]; exact Nat.le_trans (Nat.div_le_self _ _) (by omega)
  have hdw : IntKind.i64.wrap (d : Int) = d := IntWalk.i64_in _ (by omega)
  clear h hx hL hdd hl
  go_enter Tryz.func71, Tryz.ntmps71
  go_wp2_with fail
  with_reducible refine HL.out.mono ?_
  rintro e w2 ⟨rfl, g2⟩
  have c1 := (H.out.gr0 g2).c1
  rw [← HLL.out] at c1
  have HG := Lib.hid g2
  clear g2
  go_wp2_with fail
  go_ret
  exact ⟨rfl, HG.out⟩
set_option maxRecDepth 100000 in
set_option maxHeartbeats 8000000 in
theorem ffind_in (l : Nat) (h : FlIs w A a C B m j c) (hl : l < cR C * cL C) : Calls Tryz.prog 44 #[.pointer (some ⟨A.fb, 0, none⟩), .int .i64 (l : Int)] w fun e w' => e = .returned (.tuple #[.pointer (some ⟨A.kb (l / cL C), 0, none⟩), .int .i64 ((toC C (l / cL C) (l % cL C) : Nat) : Int), .int .i64 0]) ∧ Gr [] w w' := by
  have HR := Lib.hid (fregion_in l h hl)
  have H := Lib.hid h
  have hL1 : 1 ≤ cL C := by have := h.ok.nums; omega
  have hL2 : cL C ≤ 1024 := by have := h.ok.nums; omega
  have hq : l / cL C < cR C := Nat.div_lt_of_lt_mul (by rw [Nat.mul_comm]; exact hl)
  have hi : l % cL C < cL C := Nat.mod_lt _ (by omega)
  have hqr : cR C ≤ 16 := by have := h.ok.nums; omega
  have hl16 : l < 16384 := by have := h.ok.mul; omega
  have HTo := Lib.hid (fun W => to_call h.ok (l / cL C) (l % cL C) hi W)
  have HPm := Lib.hid (fun (W : World) (x : Kp w W) => (h.kp x).perms (l / cL C) hq)
  have HRs := Lib.hid (fun (W : World) (x : Kp w W) => (h.kp x).regs (l / cL C) hq)
  obtain ⟨kb, hkb⟩ : ∃ k, k = A.kb (l / cL C) := ⟨_, rfl⟩
  obtain ⟨t, ht⟩ : ∃ t, t = toC C (l / cL C) (l % cL C) := ⟨_, rfl⟩
  obtain ⟨p0, p1, p2, p3, p4, p5, hp⟩ : ∃ p0 p1 p2 p3 p4 p5, permRow C (l / cL C) = #[.int .i64 p0, .int .i64 p1, .int .u16 p2, .int .u16 p3, .int .u16 p4, .int .u16 p5] := ⟨_, _, _, _, _, _, rfl⟩
  rw [← hkb] at HRs ⊢
  rw [← ht] at HTo ⊢
  rw [hp] at HTo HPm
  obtain ⟨L, hL⟩ : ∃ L, L = cL C := ⟨_, rfl⟩
  obtain ⟨R, hR⟩ : ∃ R, R = cR C := ⟨_, rfl⟩
  rw [← hL] at hL1 hL2 HR HTo HPm HRs hq hi
  rw [← hR] at hq hqr
  have hmod : (l : Int) % (L : Int) = ((l % L : Nat) : Int) := by omega
  obtain ⟨i, hie⟩ : ∃ i, i = l % L := ⟨_, rfl⟩
  obtain ⟨q, hqe⟩ : ∃ q, q = l / L := ⟨_, rfl⟩
  rw [← hie] at hmod HTo hi
  rw [← hqe] at HR HPm HRs hq
  have hqw : IntKind.i64.wrap (q : Int) = q := IntWalk.i64_in _ (by omega)
  have hiw : IntKind.i64.wrap (i : Int) = i := IntWalk.i64_in _ (by omega)
  have HLR := Lib.hid (And.intro hL hR)
  have hqn : ¬ ((q : Int) < 0) := by omega
  have hqi : (q : Int) < (R : Int) := by omega
  clear h hl hp hkb ht hL hR hie hqe
  go_enter Tryz.func44, Tryz.ntmps44
  go_wp2_with fail
  with_reducible refine HR.out.mono ?_
  rintro e w2 ⟨rfl, g2⟩
  have x2 : Kp w w2 := g2.below0
  have r0 := HRs.out w2 x2
  have c1 := (H.out.gr0 g2).c1
  have c5 := (H.out.gr0 g2).c5
  have c6 := (H.out.gr0 g2).c6
  rw [← HLR.out.1] at c1
  rw [← HLR.out.2] at c5 c6
  have y0 := HPm.out w2 x2 0 _ rfl
  rw [Nat.add_zero] at y0
  have y1 := HPm.out w2 x2 1 _ rfl
  have y2 := HPm.out w2 x2 2 _ rfl
  have y3 := HPm.out w2 x2 3 _ rfl
  have y4 := HPm.out w2 x2 4 _ rfl
  have y5 := HPm.out w2 x2 5 _ rfl
  have HG := Lib.hid g2
  clear g2 x2
  have k0 := kp_cell r0
  have k1 := kp_cell c1
  have k5 := kp_cell c5
  have k6 := kp_cell c6
  have z0 := kp_cell y0
  have z1 := kp_cell y1
  have z2 := kp_cell y2
  have z3 := kp_cell y3
  have z4 := kp_cell y4
  have z5 := kp_cell y5
  have hne := kp_ne w2
  clear r0 c1 c5 c6 y0 y1 y2 y3 y4 y5
  go_wp2_with fail
  refine wp_region_kp (by kernel_rfl) (by kernel_rfl) ?_
  repeat (go_big_quiet_step ((rename_i x; with_reducible exact kp_call x (HTo.out _))))
  with_reducible refine wpQuiet_nil ?_
  rintro _ ⟨y, rfl⟩
  have HG2 := Lib.hid (HG.out.nextB y.h)
  clear k0 k1 k5 k6 z0 z1 z2 z3 z4 z5 hne
  generalize y.w = w3 at *
  clear y
  go_wp2_with fail
  exact bodyPost_ret (v := .tuple #[.pointer (some ⟨kb, 0, none⟩), .int .i64 (t : Int), .int .i64 0]) (by simp [results, Tryz.results44, go_sem]) rfl ⟨rfl, HG2.out⟩
end
end Go.Proofs.YtifekejcbhllpaaGreat

/-
  Layer 9: Where, Read, Write, WriteWord of a list that there is.
-/
namespace Go.Proofs.YtifekejcbhllpaaGreat
open Go.RowKit
set_option linter.unusedVariables false

section
variable {w w' : World} {kb : Nat} {q : BkA} {a : DevA} {P : PlanR} {B : BkS} {m j c cc : Nat} {D : DevS}
end
section
variable {w w' : World} {A : FlA} {a : DevA} {C : CfgZ} {B : Nat → BkS} {m : Nat} {j c : Nat → Nat} {D : DevS} {cc : Nat}
def qL (C : CfgZ) (l : Nat) : Nat := l / cL C
noncomputable def iL (C : CfgZ) (l : Nat) : Nat := toC C (l / cL C) (l % cL C)
theorem qi_in (h : OkC C) {l : Nat} (hl : l < cR C * cL C) : qL C l < cR C ∧ iL C l < cL C := by
  have hL1 : 1 ≤ cL C := by have := h.nums; omega
  exact ⟨Nat.div_lt_of_lt_mul (by rw [Nat.mul_comm]; exact hl), toC_lt h _ (Nat.mod_lt _ (by omega))⟩
theorem qi_inj (h : OkC C) {l l2 : Nat} (hl : l < cR C * cL C) (hl2 : l2 < cR C * cL C) (hq : qL C l = qL C l2) (hi : iL C l = iL C l2) : l = l2 := by
  have hL1 : 1 ≤ cL C := by have := h.nums; omega
  unfold qL at hq
  unfold iL at hi
  rw [hq] at hi
  have hm := toC_inj h _ (Nat.mod_lt _ (by omega)) (Nat.mod_lt _ (by omega)) hi
  rw [← Nat.div_add_mod l (cL C), ← Nat.div_add_mod l2 (cL C), hq, hm]
theorem fread_in (l : Nat) (h : FlIs w A a C B m j c) (hl : l < cR C * cL C) (hd : DevIs w a D) (hn : sizeC C ≤ (D.n : Int)) :
    Calls Tryz.prog 96 #[.pointer (some ⟨A.fb, 0, none⟩), .int .i64 (l : Int)] w fun e w' => e = .returned (.tuple #[.string (readR D (bankR (regC C (qL C l))) (B (qL C l)) (slotJ (regC C (qL C l)) (j (qL C l)) (iL C l))).1, .int .i64 (readR D (bankR (regC C (qL C l))) (B (qL C l)) (slotJ (regC C (qL C l)) (j (qL C l)) (iL C l))).2]) ∧ Gr [] w w' := by
  have HF := Lib.hid (ffind_in l h hl)
  obtain ⟨hq, hi⟩ := qi_in h.ok hl
  obtain ⟨r1, r2, r3, r4, r5, r6, r7, r8⟩ := h.ok.reg hq
  have HW := Lib.hid (fun W (g : Gr [] w W) => rgread_any (iL C l) (by rw [r4]; exact hi) ((h.gr0 g).rg (qL C l) hq) (hd.gr0 g) (by rw [r2]; show (regC C (qL C l)).a + regS C ≤ _; omega))
  obtain ⟨R, hR⟩ : ∃ R, R = readR D (bankR (regC C (qL C l))) (B (qL C l)) (slotJ (regC C (qL C l)) (j (qL C l)) (iL C l)) := ⟨_, rfl⟩
  rw [← hR] at HW ⊢
  unfold qL iL at HW
  obtain ⟨R1, R2⟩ := R
  simp only at HW ⊢
  clear h hl hR hq hi r1 r2 r3 r4 r5 r6 r7 r8 hd hn
  generalize A.kb (l / cL C) = kb at *
  generalize toC C (l / cL C) (l % cL C) = t at *
  go_enter Tryz.func96, Tryz.ntmps96
  go_wp2_with fail
  with_reducible refine HF.out.mono ?_
  rintro e w2 ⟨rfl, g2⟩
  have HG := Lib.hid g2
  clear g2
  go_wp2_with fail
  with_reducible refine (HW.out _ HG.out).mono ?_
  rintro e w3 ⟨rfl, g3⟩
  have HG3 := Lib.hid (HG.out.trans g3)
  clear g3
  go_wp2_with fail
  exact bodyPost_ret (v := .tuple #[.string R1, .int .i64 R2]) (by simp [results, Tryz.results96, go_sem]) rfl ⟨rfl, HG3.out⟩
/-- What a write leaves. -/
def FlPost (w : World) (A : FlA) (a : DevA) (C : CfgZ) (B : Nat → BkS) (m : Nat) (j c : Nat → Nat) (cc q : Nat) (X : Int × DevS × BkS × Nat × Nat) (e : Ending) (w' : World) : Prop :=
  e = .returned (.int .i64 X.1) ∧ DevIs w' a X.2.1 ∧ Bd X.2.1 (cc + 4200) ∧ FlIs w' A a C (updN B q X.2.2.1) (m + 192) (updN j q X.2.2.2.1) (updN c q X.2.2.2.2) ∧ Gr (A.all (cR C) ++ a.all) w w'
theorem fwrite_in (l : Nat) (s : ByteArray) (h : FlIs w A a C B m j c) (hl : l < cR C * cL C) (hd : DevIs w a D) (hb : Bd D cc) (hcc : cc < 500000000) (hm : m < 70000000) (hs : s.size = 64) (hj : j (qL C l) < 4294967295) (hn : sizeC C ≤ (D.n : Int))
    (hn1 : (regC C (qL C l)).psi ≤ (c (qL C l) : Int) → (readR D (bankR (regC C (qL C l))) (B (qL C l)) (fromI (regC C (qL C l)) (j (qL C l)))).2 = 0 ∧ (writeS (bankR (regC C (qL C l))) (toI (regC C (qL C l)) (j (qL C l))) (readR D (bankR (regC C (qL C l))) (B (qL C l)) (fromI (regC C (qL C l)) (j (qL C l)))).1 D (B (qL C l))).2.1.n = D.n ∧ (movZ (regC C (qL C l)) D (B (qL C l)) (j (qL C l))).2.1.n = D.n) :
    Calls Tryz.prog 65 #[.pointer (some ⟨A.fb, 0, none⟩), .int .i64 (l : Int), .string s] w (FlPost w A a C B m j c cc (qL C l) (regZ (regC C (qL C l)) (iL C l) (fun z => writeS (bankR (regC C (qL C l))) z s) D (B (qL C l)) (j (qL C l)) (c (qL C l)))) := by
  have HF := Lib.hid (ffind_in l h hl)
  obtain ⟨hq, hi⟩ := qi_in h.ok hl
  obtain ⟨r1, r2, r3, r4, r5, r6, r7, r8⟩ := h.ok.reg hq
  have HW := Lib.hid (fun W (g : Gr [] w W) => rgwrite_any (iL C l) s ((h.gr0 g).rg (qL C l) hq) (hd.gr0 g) hb hcc hm (by rw [r4]; exact hi) hs hj (by rw [r2]; show (regC C (qL C l)).a + regS C ≤ _; omega) hn1)
  obtain ⟨X, hX⟩ : ∃ X, X = regZ (regC C (qL C l)) (iL C l) (fun z => writeS (bankR (regC C (qL C l))) z s) D (B (qL C l)) (j (qL C l)) (c (qL C l)) := ⟨_, rfl⟩
  rw [← hX] at HW ⊢
  have HFin := Lib.hid (fun (W W' : World) (g : Gr [] w W) (g' : Gr (A.kb (qL C l) :: ((A.q (qL C l)).all ++ a.all)) W W') (k : RgIs W' (A.kb (qL C l)) (A.q (qL C l)) a (regC C (qL C l)) X.2.2.1 (m + 192) X.2.2.2.1 X.2.2.2.2) => And.intro ((h.gr0 g).upd hq g' k (by omega)) (show Gr (A.all (cR C) ++ a.all) w W' from (g.of0).trans (g'.mono fun x hx => by
    rcases List.mem_cons.1 hx with rfl | hx
    · exact List.mem_append.2 (.inl (FlA.mem hq (by simp [FlA.reg])))
    · rcases List.mem_append.1 hx with hx | hx
      · exact List.mem_append.2 (.inl (FlA.mem hq (by simp [FlA.reg, hx])))
      · exact List.mem_append.2 (.inr hx))))
  have HFind := Lib.hid (show Calls Tryz.prog 44 #[.pointer (some ⟨A.fb, 0, none⟩), .int .i64 (l : Int)] w (fun e w' => e = .returned (.tuple #[.pointer (some ⟨A.kb (qL C l), 0, none⟩), .int .i64 ((iL C l : Nat) : Int), .int .i64 0]) ∧ Gr [] w w') from HF.out)
  have hs1 : ((s.size : Int) != 64) = false := by rw [hs]; rfl
  have hs2 : (s.size != 64) = false := by rw [hs]; rfl
  unfold FlPost
  unfold RgPost at HW
  clear h hl hX hq hi r1 r2 r3 r4 r5 r6 r7 r8 hd hn hn1 hj hs HF hb
  generalize A.kb (qL C l) = kb at *
  generalize iL C l = t at *
  go_enter Tryz.func65, Tryz.ntmps65
  go_wp2_with fail
  with_reducible refine HFind.out.mono ?_
  rintro e w2 ⟨rfl, g2⟩
  have HG := Lib.hid g2
  clear g2
  go_wp2_with fail
  with_reducible refine (HW.out _ HG.out).mono ?_
  rintro e w3 ⟨rfl, d3, b3, k3, g3⟩
  have H3 := Lib.hid (And.intro d3 (And.intro b3 (HFin.out _ _ HG.out g3 k3)))
  clear d3 b3 k3 g3
  go_wp2_with fail
  go_ret
  exact ⟨rfl, H3.out.1, H3.out.2.1, H3.out.2.2.1, H3.out.2.2.2⟩
end
end Go.Proofs.YtifekejcbhllpaaGreat

/-
  Layer 9, pure: a list at work on a calm device, told by what its lines have.
-/
namespace Go.Proofs.YtifekejcbhllpaaGreat
open Go.RowKit
set_option linter.unusedVariables false

/-- What can be seen of a list besides its lines: where they are, how many spares are used, how often regions moved. -/
structure FlV where
  W : Nat → Nat
  U : Nat → Nat
  J : Nat → Nat
def vOf (C : CfgZ) (B : Nat → BkS) (j : Nat → Nat) (i : Nat → Nat) : FlV := ⟨fun l => (placeP (bankR (regC C (qL C l))) (B (qL C l)) (slotJ (regC C (qL C l)) (j (qL C l)) (i l))).toNat, fun q => (B q).used, j⟩
/-- A list on a device that is calm; if g, none of its lines is bad. -/
structure FlD (C : CfgZ) (g : Bool) (F : Nat → Nat → Nat) (V : FlV) (N : Nat) (D : DevS) (B : Nat → BkS) (j : Nat → Nat) : Prop where
  calm : Calm D
  gd : g = true → D.bad = fun _ => false
  fit : sizeC C ≤ (D.n : Int)
  ls : ∃ G, LsC C D B j G ∧ ∀ l k, l < cR C * cL C → k < 8 → G (qL C l) (iL C l) k = F l k
  vs : V = vOf C B j (iL C)
  mv : ∀ q, q < cR C → j q ≤ N
  bd : Bd D N
section
variable {C : CfgZ} {g : Bool} {F : Nat → Nat → Nat} {V : FlV} {N : Nat} {D E : DevS} {B : Nat → BkS} {j : Nat → Nat}
theorem FlD.pos (hC : OkC C) (h : FlD C g F V N D B j) {l : Nat} (hl : l < cR C * cL C) : placeP (bankR (regC C (qL C l))) (B (qL C l)) (slotJ (regC C (qL C l)) (j (qL C l)) (iL C l)) = (V.W l : Int) ∧ (regC C (qL C l)).a + tabZ (bankR (regC C (qL C l))) ≤ (V.W l : Int) ∧ (V.W l : Int) < (regC C (qL C l)).a + sizeZ (bankR (regC C (qL C l))) ∧ V.W l < D.n := by
  obtain ⟨G, L, _⟩ := h.ls
  obtain ⟨hq, hi⟩ := qi_in hC hl
  obtain ⟨r1, r2, r3, r4, r5, r6, r7, r8⟩ := hC.reg hq
  have hle := slotN_le (j := j (qL C l)) (i := iL C l) r1.l1
  have hin : inP (bankR (regC C (qL C l))) (slotJ (regC C (qL C l)) (j (qL C l)) (iL C l)) := by
    rw [slotJ_N _ _ _ r1.l1]
    exact inR _ (by omega) (by omega)
  have T := (L.rg _ hq).ti
  obtain ⟨l0, p0, p1, p2, p3⟩ := T.place r1.ok hin
  have hu := T.us
  have e : V.W l = l0 := by rw [h.vs]; show (placeP _ _ _).toNat = l0; rw [p0, Int.toNat_natCast]
  obtain ⟨q1, q2, q3, q4, q5, q6⟩ := rg_nums r1
  have hba : (bankR (regC C (qL C l))).a = (regC C (qL C l)).a := rfl
  have hbl : (bankR (regC C (qL C l))).l = ((regC C (qL C l)).l : Int) + 2 := rfl
  have hbs : (bankR (regC C (qL C l))).s = (regC C (qL C l)).s := rfl
  unfold spareP at p3
  rw [e, p0]
  exact ⟨rfl, by omega, by omega, p1⟩
/-- The words of a line are numbers of 64 bits. -/
theorem FlD.word (hC : OkC C) (h : FlD C g F V N D B j) (hm : ∀ x, D.med x < 18446744073709551616) {l k : Nat} (hl : l < cR C * cL C) (hk : k < 8) : F l k < 18446744073709551616 := by
  obtain ⟨G, L, hF⟩ := h.ls
  obtain ⟨hq, hi⟩ := qi_in hC hl
  obtain ⟨r1, r2, r3, r4, _⟩ := hC.reg hq
  rw [← hF l k hl hk, ← (L.rg _ hq).wd _ k (by rw [r4]; exact hi) hk]
  exact hm _
/-- A line reads what it has. -/
theorem FlD.read (hC : OkC C) (h : FlD C g F V N D B j) (hm : ∀ x, D.med x < 18446744073709551616) {l : Nat} (hl : l < cR C * cL C) : readR D (bankR (regC C (qL C l))) (B (qL C l)) (slotJ (regC C (qL C l)) (j (qL C l)) (iL C l)) = (lnF F l, 0) ∧ (lnF F l).size = 64 ∧ ∀ k, k < 8 → wdL (lnF F l).data.toList k = F l k := by
  obtain ⟨G, L, hF⟩ := h.ls
  obtain ⟨hq, hi⟩ := qi_in hC hl
  obtain ⟨r1, r2, r3, r4, _⟩ := hC.reg hq
  have hle := slotN_le (j := j (qL C l)) (i := iL C l) r1.l1
  obtain ⟨T, t1, t2, t3⟩ := cnt_read (L.rg _ hq).ti r1.ok hm (inR (regC C (qL C l)) (z := ((slotN (regC C (qL C l)).l (j (qL C l)) (iL C l) : Nat) : Int)) (by omega) (by omega))
  have hT : ∀ k, k < 8 → wdL T.data.toList k = F l k := fun k hk => by rw [t3 k hk, (L.rg _ hq).wd _ k (by rw [r4]; exact hi) hk, hF l k hl hk]
  have hx : ∃ t : ByteArray, t.size = 64 ∧ ∀ k, k < 8 → wdL t.data.toList k = F l k := ⟨T, t2, hT⟩
  have e : lnF F l = T := by
    unfold lnF
    rw [dif_pos hx]
    obtain ⟨s1, s2⟩ := Classical.choose_spec hx
    exact bytes_eq s1 t2 fun k hk => by rw [s2 k hk, hT k hk]
  rw [slotJ_N _ _ _ r1.l1, e]
  exact ⟨t1, t2, hT⟩
/-- Behind a write: the list, line l another one. -/
theorem FlD.next (hC : OkC C) (h : FlD C g F V N D B j) {l : Nat} (hl : l < cR C * cL C) {e : Int} {G0 : Int → (Nat → Nat) → Prop} {B' : BkS} {j' N' : Nat} {H : Nat → Nat} (hcE : Calm E) (hbE : Bd E N') (hN : N + 1 ≤ N')
    {Gf : Nat → Nat → Nat → Nat} (L : LsC C D B j Gf) (hGF : ∀ l k, l < cR C * cL C → k < 8 → Gf (qL C l) (iL C l) k = F l k)
    (k : RegOut (regC C (qL C l)) D (iL C l) (Gf (qL C l)) G0 (j (qL C l)) (j (qL C l) + 1) e E B' j') (he : e ≠ 6) (hH : ∀ X, G0 e X → IsW H X) :
    FlD C g (fun l2 k => if l2 = l then H k else F l2 k) (vOf C (updN B (qL C l) B') (updN j (qL C l) j') (iL C)) N' E (updN B (qL C l) B') (updN j (qL C l) j') := by
  obtain ⟨hq, hi⟩ := qi_in hC hl
  obtain ⟨r1, r2, r3, r4, _⟩ := hC.reg hq
  obtain ⟨k1, k2⟩ := k.live he
  rw [calm_bare hcE] at k2
  have hr : RgC (regC C (qL C l)) E B' j' (fun i k => if i = iL C l then H k else Gf (qL C l) i k) := ⟨k2.ti, k2.reg, fun i x hil hx => by
    by_cases c : i = iL C l
    · rw [if_pos c, c]
      exact hH _ k2.got x hx
    · rw [if_neg c]
      exact k2.wd i x hil hx c⟩
  refine ⟨hcE, fun hg => by rw [k.near.bad]; exact h.gd hg, by rw [k.near.n]; exact h.fit, ⟨_, LsC.other hC (by rw [calm_bare h.calm]; exact L) hq hcE k.near.n k.near.bad (fun x hx => k.near.live k1 hx) hr, fun l2 x hl2 hx => ?_⟩, rfl, fun q hq1 => ?_, hbE⟩
  · by_cases c : qL C l2 = qL C l
    · rw [c, updN_same]
      by_cases d : iL C l2 = iL C l
      · rw [if_pos d, if_pos (qi_inj hC hl2 hl c d)]
      · rw [if_neg d, if_neg (fun e => d (by rw [e])), ← c]
        exact hGF l2 x hl2 hx
    · rw [updN_other _ _ c, if_neg (fun e => c (by rw [e]))]
      exact hGF l2 x hl2 hx
  · by_cases c : q = qL C l
    · subst c
      rw [updN_same]
      have := h.mv _ hq1
      have := k.jl
      omega
    · rw [updN_other _ _ c]
      have := h.mv _ hq1
      omega
end
end Go.Proofs.YtifekejcbhllpaaGreat
