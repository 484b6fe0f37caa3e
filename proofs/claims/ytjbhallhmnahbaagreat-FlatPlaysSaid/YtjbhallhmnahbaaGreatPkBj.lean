/-
  PkBj: FlL, FlP, FlQ, FlR.
-/
import Derived.Test.YtjbhallhmnahbaaGreatPkBf
import Derived.Test.YtjbhallhmnahbaaGreatPkBh
import Derived.Test.YtjbhallhmnahbaaGreatPkBi
import Derived.Test.YtjbhallhmnahbaaGreatPkBe
import Derived.Test.YtjbhallhmnahbaaGreatPkBb

set_option linter.unusedVariables false

/-
  Layer 9, pure: a list of lines on a device: its head, its regions one behind the other, its contents.
-/
namespace Go.Proofs.YtjbhallhmnahbaaGreat
open Go.RowKit
set_option linter.unusedVariables false

structure OkC (C : CfgZ) : Prop where
  r1 : 1 ≤ C.r
  r2 : C.r ≤ 16
  ok : okP C
  key : C.key < 18446744073709551616
  fits : 1 + C.r * regS C ≤ 8192
def regC (C : CfgZ) (q : Nat) : PlanR := regP C.l.toNat C.s C.psi q
def cR (C : CfgZ) : Nat := C.r.toNat
def cL (C : CfgZ) : Nat := C.l.toNat
section
variable {C : CfgZ} {q q2 : Nat}
theorem OkC.nums (h : OkC C) : ((cR C : Nat) : Int) = C.r ∧ ((cL C : Nat) : Int) = C.l ∧ 1 ≤ cR C ∧ cR C ≤ 16 ∧ 1 ≤ cL C ∧ cL C ≤ 1024 ∧ 0 ≤ C.s ∧ C.s ≤ 64 ∧ 1 ≤ C.psi ∧ C.psi ≤ 65535 ∧ regS C = (C.s + 7) / 8 + (C.l + 2) + C.s := by
  obtain ⟨h1, h2, h3, h4, h5⟩ := h
  obtain ⟨_, q2⟩ := regS_ok h3
  obtain ⟨g1, g2, g3, g4, g5, g6⟩ := h3
  unfold cR cL
  refine ⟨by omega, by omega, by omega, by omega, by omega, by omega, g3, g4, g5, g6, q2⟩
theorem OkC.wf (h : OkC C) : wfC C ∧ Wf16 C := by
  obtain ⟨n1, n2, n3, n4, n5, n6, n7, n8, n9, n10, n11⟩ := h.nums
  exact ⟨⟨by omega, by omega⟩, ⟨by omega, by omega, by omega, by omega, h.key⟩⟩
theorem OkC.size (h : OkC C) : sizeC C = 1 + C.r * regS C := by unfold sizeC; rw [if_pos ⟨h.r1, h.r2, h.ok⟩]
theorem OkC.check (h : OkC C) {n : Int} (hn : sizeC C ≤ n) : checkC C n = 0 := by
  have hb := mul_b C (k := C.r) (by have := h.r1; omega) h.r2
  unfold checkC
  rw [if_neg (by rw [h.size]; omega), if_neg (by omega)]
theorem OkC.step (h : OkC C) (hq : q < cR C) : (q : Int) * regS C + regS C ≤ C.r * regS C := by
  have hb := regS_b C
  have h1 : ((q : Int) + 1) * regS C ≤ C.r * regS C := Int.mul_le_mul_of_nonneg_right (by have := h.nums.1; omega) hb.1
  rw [Int.add_mul] at h1
  omega
theorem OkC.reg (h : OkC C) (hq : q < cR C) : OkR (regC C q) ∧ sizeZ (bankR (regC C q)) = regS C ∧ (regC C q).a = 1 + (q : Int) * regS C ∧ (regC C q).l = cL C ∧ (regC C q).s = C.s ∧ (regC C q).psi = C.psi ∧ (regC C q).a + regS C ≤ sizeC C ∧ 1 ≤ (regC C q).a := by
  obtain ⟨n1, n2, n3, n4, n5, n6, n7, n8, n9, n10, n11⟩ := h.nums
  obtain ⟨g1, _⟩ := regS_ok h.ok
  have hs := h.step hq
  have hz : sizeZ ⟨1, ((C.l.toNat : Nat) : Int) + 2, C.s⟩ = regS C := by rw [g1]; congr 2; unfold cL at n2; omega
  have hb := mul_b C (k := (q : Int)) (by omega) (by omega)
  have hf := h.fits
  have hrb := regS_b C
  obtain ⟨a1, a2⟩ := regP_size (l := C.l.toNat) (s := C.s) (psi := C.psi) (r := q) n5 n6 n7 n8 (by rw [hz]; omega) n9 n10
  have ha : (regC C q).a = 1 + (q : Int) * regS C := by show 1 + (q : Int) * sizeZ _ = _; rw [hz]
  refine ⟨a1, by rw [← hz]; exact a2, ha, rfl, rfl, rfl, ?_, by omega⟩
  rw [ha, h.size]
  omega
theorem OkC.apart (h : OkC C) (hq : q < cR C) (hq2 : q2 < cR C) (hne : q ≠ q2) : Apart (bankR (regC C q)) (bankR (regC C q2)) := by
  have hrb := regS_b C
  obtain ⟨_, s1, a1, _⟩ := h.reg hq
  obtain ⟨_, s2, a2, _⟩ := h.reg hq2
  unfold Apart
  show (regC C q).a + sizeZ (bankR (regC C q)) ≤ (regC C q2).a ∨ (regC C q2).a + sizeZ (bankR (regC C q2)) ≤ (regC C q).a
  rw [s1, s2, a1, a2]
  rcases Nat.lt_or_ge q q2 with c | c
  · left
    have := Int.mul_le_mul_of_nonneg_right (show (q : Int) + 1 ≤ (q2 : Int) by omega) hrb.1
    rw [Int.add_mul] at this
    omega
  · right
    have := Int.mul_le_mul_of_nonneg_right (show (q2 : Int) + 1 ≤ (q : Int) by omega) hrb.1
    rw [Int.add_mul] at this
    omega
theorem regV_eq (h : OkC C) (hq : q < cR C) : regV C (q : Int) = planRV (regC C q) := by
  obtain ⟨_, _, a1, a2, a3, a4, _⟩ := h.reg hq
  have n2 := h.nums.2.1
  unfold regV planRV
  rw [a1, a2, a3, a4, n2]
end
section
variable {P : PlanR} {D E : DevS} {B : BkS} {j : Nat} {F : Nat → Nat → Nat}
theorem RgC.keep (hP : OkR P) (h : RgC P D B j F) (hc : Calm E) (hn : E.n = D.n) (hb : E.bad = D.bad) (hx : ∀ x : Nat, 8 * P.a ≤ (x : Int) → (x : Int) < 8 * (P.a + sizeZ (bankR P)) → E.med x = D.med x) : RgC P E B j F := by
  obtain ⟨q1, q2, q3, q4, q5, q6⟩ := rg_nums hP
  have hba : (bankR P).a = P.a := rfl
  have hc2 : ∀ z, inP (bankR P) z → ∀ k, k < 8 → cntZ (bankR P) B E z k = cntZ (bankR P) B D z k := fun z hz k hk => by
    obtain ⟨l, pl, c1, c2, c3⟩ := h.ti.place hP.ok hz
    have hu := h.ti.us
    have hbl : (bankR P).l = (P.l : Int) + 2 := rfl
    have hbs : (bankR P).s = P.s := rfl
    unfold spareP at c3
    unfold cntZ
    rw [pl, Int.toNat_natCast]
    exact hx _ (by omega) (by omega)
  have hbl : (bankR P).l = (P.l : Int) + 2 := rfl
  refine ⟨h.ti.keep2 hc hn (fun x x1 x2 => hx x x1 (by omega)) hP.ok (fun l l1 l2 => by rw [hb]; exact h.ti.tb l l1 l2), ?_, fun i k hi hk => ?_⟩
  · rw [hc2 _ (inR P (by omega) (by omega)) 0 (by omega)]
    exact h.reg
  · have hle := slotN_le (j := j) (i := i) hP.l1
    rw [hc2 _ (inR P (by omega) (by omega)) k hk]
    exact h.wd i k hi hk
end
structure LsC (C : CfgZ) (D : DevS) (B : Nat → BkS) (j : Nat → Nat) (F : Nat → Nat → Nat → Nat) : Prop where
  hd : ∀ k, k < 8 → D.med k = wdL (headL C) k
  rg : ∀ q, q < cR C → RgC (regC C q) D (B q) (j q) (F q)
def updN {α : Type} (f : Nat → α) (k : Nat) (v : α) : Nat → α := fun i => if i = k then v else f i
theorem updN_same {α : Type} (f : Nat → α) (k : Nat) (v : α) : updN f k v k = v := if_pos rfl
theorem updN_other {α : Type} (f : Nat → α) {k i : Nat} (v : α) (h : i ≠ k) : updN f k v i = f i := if_neg h
section
variable {C : CfgZ} {D E E0 : DevS} {B : Nat → BkS} {j : Nat → Nat} {F : Nat → Nat → Nat → Nat} {q0 i0 j' : Nat} {B' : BkS} {G : Int → (Nat → Nat) → Prop} {e : Int}
theorem OkC.outs (h : OkC C) (hq : q0 < cR C) : (∀ k, k < 8 → OutZ (bankR (regC C q0)) k) ∧ ∀ q, q < cR C → q ≠ q0 → ∀ x : Nat, 8 * (regC C q).a ≤ (x : Int) → (x : Int) < 8 * ((regC C q).a + sizeZ (bankR (regC C q))) → OutZ (bankR (regC C q0)) x := by
  obtain ⟨_, s0, a0, _, _, _, _, l0⟩ := h.reg hq
  refine ⟨fun k hk => ?_, fun q hq1 hne x h1 h2 => ?_⟩
  · unfold OutZ
    show (k : Int) < 8 * (regC C q0).a ∨ _
    omega
  · have ha := h.apart hq1 hq hne
    have ha' : (regC C q).a + sizeZ (bankR (regC C q)) ≤ (regC C q0).a ∨ (regC C q0).a + sizeZ (bankR (regC C q0)) ≤ (regC C q).a := ha
    unfold OutZ
    show (x : Int) < 8 * (regC C q0).a ∨ 8 * ((regC C q0).a + sizeZ (bankR (regC C q0))) ≤ (x : Int)
    omega
theorem LsC.other (h : OkC C) (L : LsC C (bare D) B j F) (hq : q0 < cR C) (hc : Calm E0) (hn : E0.n = D.n) (hb : E0.bad = D.bad) (ho : ∀ x, OutZ (bankR (regC C q0)) x → E0.med x = D.med x) {F0 : Nat → Nat → Nat} (hr : RgC (regC C q0) E0 B' j' F0) : LsC C E0 (updN B q0 B') (updN j q0 j') (updN F q0 F0) := by
  obtain ⟨o1, o2⟩ := h.outs hq
  refine ⟨fun k hk => ?_, fun q hq1 => ?_⟩
  · rw [ho k (o1 k hk)]
    exact L.hd k hk
  · by_cases c : q = q0
    · subst c
      rw [updN_same, updN_same, updN_same]
      exact hr
    · rw [updN_other _ _ c, updN_other _ _ c, updN_other _ _ c]
      exact (L.rg q hq1).keep (h.reg hq1).1 hc hn hb fun x x1 x2 => ho x (o2 q hq1 c x x1 x2)
end
end Go.Proofs.YtjbhallhmnahbaaGreat

/-
  Layer 9: a list in memory; what is asked of it.
-/
namespace Go.Proofs.YtjbhallhmnahbaaGreat
open Go.RowKit
set_option linter.unusedVariables false

structure FlA where
  fb : Nat
  br : Nat
  bp : Nat
  cr : Nat
  cp : Nat
  kb : Nat → Nat
  q : Nat → BkA
def FlA.reg (A : FlA) (q : Nat) : List Nat := A.kb q :: (A.q q).all
def FlA.all (A : FlA) (R : Nat) : List Nat := [A.fb, A.br, A.bp] ++ (List.range R).flatMap A.reg
def keyQ (C : CfgZ) (q : Nat) : Nat := (C.key + q) % 18446744073709551616
def permRow (C : CfgZ) (q : Nat) : Array Value := #[.int .i64 C.l, .int .i64 (halfN (cL C) : Nat), .int .u16 (keyN (keyQ C q) 0 : Nat), .int .u16 (keyN (keyQ C q) 1 : Nat), .int .u16 (keyN (keyQ C q) 2 : Nat), .int .u16 (keyN (keyQ C q) 3 : Nat)]
noncomputable def toC (C : CfgZ) (q i : Nat) : Nat := goes (halfN (cL C)) [keyN (keyQ C q) 0, keyN (keyQ C q) 1, keyN (keyQ C q) 2, keyN (keyQ C q) 3] (cL C) i
def flRow (A : FlA) (C : CfgZ) : Array Value := #[.int .i64 C.r, .int .i64 C.l, .int .i64 C.s, .int .i64 C.psi, .int .u64 (C.key : Int), .slice (some ⟨A.br, 0, none⟩) (cR C) A.cr, .slice (some ⟨A.bp, 0, none⟩) (cR C) A.cp]
structure FlIs (w : World) (A : FlA) (a : DevA) (C : CfgZ) (B : Nat → BkS) (m : Nat) (j c : Nat → Nat) : Prop where
  ok : OkC C
  head : Holds w A.fb (flRow A C) 121
  regs : ∀ q, q < cR C → w.cell? ⟨A.br, q, none⟩ = some (.pointer (some ⟨A.kb q, 0, none⟩))
  perms : ∀ q, q < cR C → ∀ i v, (permRow C q)[i]? = some v → w.cell? ⟨A.bp, q * 6 + i, none⟩ = some v
  rg : ∀ q, q < cR C → RgIs w (A.kb q) (A.q q) a (regC C q) (B q) m (j q) (c q)
  dj : ∀ q q2, q < cR C → q2 < cR C → q ≠ q2 → ∀ x ∈ A.reg q, x ∉ A.reg q2
  nr : ∀ q, q < cR C → ∀ x ∈ A.reg q, x ≠ A.fb ∧ x ≠ A.br ∧ x ≠ A.bp
  na : A.fb ∉ a.all ∧ A.br ∉ a.all ∧ A.bp ∉ a.all
section
variable {w w' : World} {A : FlA} {a : DevA} {C : CfgZ} {B : Nat → BkS} {m : Nat} {j c : Nat → Nat} {D : DevS} {cc : Nat}
theorem FlA.mem {R q x : Nat} (hq : q < R) (hx : x ∈ A.reg q) : x ∈ A.all R := by
  unfold FlA.all
  rw [List.mem_append]
  exact .inr (List.mem_flatMap.2 ⟨q, List.mem_range.2 hq, hx⟩)
theorem FlA.mem3 {R : Nat} : A.fb ∈ A.all R ∧ A.br ∈ A.all R ∧ A.bp ∈ A.all R := by
  unfold FlA.all
  simp
theorem FlA.cases {R x : Nat} (h : x ∈ A.all R) : x = A.fb ∨ x = A.br ∨ x = A.bp ∨ ∃ q, q < R ∧ x ∈ A.reg q := by
  unfold FlA.all at h
  rw [List.mem_append] at h
  rcases h with h | h
  · simp only [List.mem_cons, List.not_mem_nil, or_false] at h
    rcases h with h | h | h
    · exact .inl h
    · exact .inr (.inl h)
    · exact .inr (.inr (.inl h))
  · obtain ⟨q, h1, h2⟩ := List.mem_flatMap.1 h
    exact .inr (.inr (.inr ⟨q, List.mem_range.1 h1, h2⟩))
theorem FlIs.gr {bs : List Nat} (h : FlIs w A a C B m j c) (g : Gr bs w w') (hn : ∀ x ∈ A.all (cR C), x ∉ bs) : FlIs w' A a C B m j c := by
  obtain ⟨n1, n2, n3, _⟩ := h.ok.nums
  obtain ⟨m1, m2, m3⟩ := FlA.mem3 (A := A) (R := cR C)
  refine ⟨h.ok, h.head.gr g (hn _ m1), fun q hq => ?_, fun q hq i v hi => ?_, fun q hq => (h.rg q hq).gr g (hn _ (FlA.mem hq (by simp [FlA.reg]))) (fun b hb => hn b (FlA.mem hq (by simp [FlA.reg, hb]))), h.dj, h.nr, h.na⟩
  · exact (World.cell?_of_block (w := w) (g.block _ (World.block_lt_of_cell? w _ (h.regs q hq)) (hn _ m2))).trans (h.regs q hq)
  · exact (World.cell?_of_block (w := w) (g.block _ (World.block_lt_of_cell? w _ (h.perms q hq i v hi)) (hn _ m3))).trans (h.perms q hq i v hi)
theorem FlIs.gr0 (h : FlIs w A a C B m j c) (g : Gr [] w w') : FlIs w' A a C B m j c := h.gr g (by simp)
theorem FlIs.kp (h : FlIs w A a C B m j c) (x : Kp w w') : FlIs w' A a C B m j c := h.gr0 (Gr.ofBelow x)
theorem FlIs.moreN (h : FlIs w A a C B m j c) {m' : Nat} (hm : m ≤ m') : FlIs w A a C B m' j c := ⟨h.ok, h.head, h.regs, h.perms, fun q hq => (h.rg q hq).moreN hm, h.dj, h.nr, h.na⟩
theorem FlIs.lt (h : FlIs w A a C B m j c) : ∀ x ∈ A.all (cR C), x < w.heap.size := by
  intro x hx
  rcases FlA.cases hx with rfl | rfl | rfl | ⟨q, hq, hx⟩
  · exact h.head.lt
  · exact World.block_lt_of_cell? w _ (h.regs 0 (by have := h.ok.nums; omega))
  · exact World.block_lt_of_cell? w _ (h.perms 0 (by have := h.ok.nums; omega) 0 _ rfl)
  · unfold FlA.reg at hx
    rcases List.mem_cons.1 hx with rfl | hx
    · exact (h.rg q hq).head.lt
    · exact (h.rg q hq).bk.lt _ hx
theorem FlIs.upd {q0 : Nat} {B' : BkS} {j' c' m' : Nat} (h : FlIs w A a C B m j c) (hq : q0 < cR C) (g : Gr (A.kb q0 :: ((A.q q0).all ++ a.all)) w w') (k : RgIs w' (A.kb q0) (A.q q0) a (regC C q0) B' m' j' c') (hm : m ≤ m') : FlIs w' A a C (updN B q0 B') m' (updN j q0 j') (updN c q0 c') := by
  have hmem : ∀ x, x ∈ A.kb q0 :: ((A.q q0).all ++ a.all) → x ∈ A.reg q0 ∨ x ∈ a.all := fun x hx => by
    rcases List.mem_cons.1 hx with rfl | hx
    · exact .inl (by simp [FlA.reg])
    · rcases List.mem_append.1 hx with hx | hx
      · exact .inl (by simp [FlA.reg, hx])
      · exact .inr hx
  have n1 : A.fb ∉ A.kb q0 :: ((A.q q0).all ++ a.all) := fun e => (hmem _ e).elim (fun e => (h.nr q0 hq _ e).1 rfl) h.na.1
  have n2 : A.br ∉ A.kb q0 :: ((A.q q0).all ++ a.all) := fun e => (hmem _ e).elim (fun e => (h.nr q0 hq _ e).2.1 rfl) h.na.2.1
  have n3 : A.bp ∉ A.kb q0 :: ((A.q q0).all ++ a.all) := fun e => (hmem _ e).elim (fun e => (h.nr q0 hq _ e).2.2 rfl) h.na.2.2
  refine ⟨h.ok, h.head.gr g n1, fun q hq1 => ?_, fun q hq1 i v hi => ?_, fun q hq1 => ?_, h.dj, h.nr, h.na⟩
  · exact (World.cell?_of_block (w := w) (g.block _ (World.block_lt_of_cell? w _ (h.regs q hq1)) n2)).trans (h.regs q hq1)
  · exact (World.cell?_of_block (w := w) (g.block _ (World.block_lt_of_cell? w _ (h.perms q hq1 i v hi)) n3)).trans (h.perms q hq1 i v hi)
  · by_cases e : q = q0
    · subst e
      rw [updN_same, updN_same, updN_same]
      exact k
    · rw [updN_other _ _ e, updN_other _ _ e, updN_other _ _ e]
      have hr := h.rg q hq1
      refine ((hr.gr g ?_ ?_).moreN hm)
      · intro x
        exact (hmem _ x).elim (fun x => h.dj q q0 hq1 hq e _ (by simp [FlA.reg]) x) hr.ka
      · intro b hb x
        exact (hmem _ x).elim (fun x => h.dj q q0 hq1 hq e _ (by simp [FlA.reg, hb]) x) (hr.bk.sep b hb)
end
theorem toC_lt {C : CfgZ} (h : OkC C) (q : Nat) {i : Nat} (hi : i < cL C) : toC C q i < cL C := by
  obtain ⟨h1, h2, h3⟩ := halfN_b (cL C) (by have := h.nums; omega)
  exact goes_lt _ _ _ _ hi h3
theorem toC_inj {C : CfgZ} (h : OkC C) (q : Nat) {i i2 : Nat} (hi : i < cL C) (hi2 : i2 < cL C) (e : toC C q i = toC C q i2) : i = i2 := by
  obtain ⟨h1, h2, h3⟩ := halfN_b (cL C) (by have := h.nums; omega)
  exact goes_inj _ _ _ _ _ hi hi2 h3 e
theorem to_call {C : CfgZ} (h : OkC C) (q i : Nat) (hi : i < cL C) (w : World) : Calls Tryz.prog 112 #[.agg (permRow C q), .int .i64 (i : Int)] w fun e w' => e = .returned (.int .i64 ((toC C q i : Nat) : Int)) ∧ Below w.heap.size w w' := by
  obtain ⟨n1, n2, n3, n4, n5, n6, _⟩ := h.nums
  obtain ⟨h1, h2, h3⟩ := halfN_b (cL C) (by omega)
  unfold permRow
  rw [← n2]
  refine to_yes (cL C) (halfN (cL C)) _ _ _ _ i _ w h1 h2 (fun k hk => ?_) hi h3 (by omega) (goes_to _ _ _ _ hi h3)
  simp only [List.mem_cons, List.not_mem_nil, or_false] at hk
  rcases hk with rfl | rfl | rfl | rfl <;> exact keyN_lt _ _
end Go.Proofs.YtjbhallhmnahbaaGreat

/-
  Layer 9: Lines, Region, find, of a list that there is.
-/
namespace Go.Proofs.YtjbhallhmnahbaaGreat
open Go.RowKit
set_option linter.unusedVariables false

section
variable {w w' : World} {A : FlA} {a : DevA} {C : CfgZ} {B : Nat → BkS} {m : Nat} {j c : Nat → Nat} {D : DevS} {cc : Nat}
theorem FlIs.c0 (h : FlIs w A a C B m j c) : w.cell? ⟨A.fb, 0, none⟩ = some (.int .i64 (cR C : Nat)) := by rw [h.ok.nums.1]; exact h.head.cell 0
theorem FlIs.c1 (h : FlIs w A a C B m j c) : w.cell? ⟨A.fb, 1, none⟩ = some (.int .i64 (cL C : Nat)) := by rw [h.ok.nums.2.1]; exact h.head.cell 1
theorem FlIs.c5 (h : FlIs w A a C B m j c) : w.cell? ⟨A.fb, 5, none⟩ = some (.slice (some ⟨A.br, 0, none⟩) (cR C) A.cr) := h.head.cell 5
theorem FlIs.c6 (h : FlIs w A a C B m j c) : w.cell? ⟨A.fb, 6, none⟩ = some (.slice (some ⟨A.bp, 0, none⟩) (cR C) A.cp) := h.head.cell 6
theorem OkC.mul (h : OkC C) : cR C * cL C ≤ 16384 := by
  obtain ⟨n1, n2, n3, n4, n5, n6, _⟩ := h.nums
  exact Nat.mul_le_mul n4 n6
set_option maxRecDepth 100000 in
set_option maxHeartbeats 4000000 in
theorem flines_in (h : FlIs w A a C B m j c) : Calls Tryz.prog 30 #[.pointer (some ⟨A.fb, 0, none⟩)] w fun e w' => e = .returned (.int .i64 ((cR C * cL C : Nat) : Int)) ∧ Gr [] w w' := by
  have c0 := h.c0
  have c1 := h.c1
  have hm := h.ok.mul
  obtain ⟨R, hR⟩ : ∃ R, R = cR C := ⟨_, rfl⟩
  obtain ⟨L, hL⟩ : ∃ L, L = cL C := ⟨_, rfl⟩
  rw [← hR] at c0 hm ⊢
  rw [← hL] at c1 hm ⊢
  obtain ⟨x, hx⟩ : ∃ x, x = R * L := ⟨_, rfl⟩
  have i1 : IntKind.i64.wrap ((R : Int) * (L : Int)) = (x : Int) := by
    rw [← Int.natCast_mul, ← hx]
    exact IntWalk.i64_in _ (by omega)
  rw [← hx]
  clear h hm hR hL hx
  go_enter Tryz.func30, Tryz.ntmps30
  go_wp2_with fail
  go_quiet (fail)
  go_wp2_with fail
  go_ret
  exact ⟨rfl, (Gr.refl [] w).drewN _⟩
theorem fregion_in (l : Nat) (h : FlIs w A a C B m j c) (hl : l < cR C * cL C) : Calls Tryz.prog 40 #[.pointer (some ⟨A.fb, 0, none⟩), .int .i64 (l : Int)] w fun e w' => e = .returned (.int .i64 ((l / cL C : Nat) : Int)) ∧ Gr [] w w' := by
  have HL := Lib.hid (flines_in h)
  have H := Lib.hid h
  have hm := h.ok.mul
  have hL1 : 1 ≤ cL C := by have := h.ok.nums; omega
  have hL2 : cL C ≤ 1024 := by have := h.ok.nums; omega
  obtain ⟨x, hx⟩ : ∃ x, x = cR C * cL C := ⟨_, rfl⟩
  rw [← hx] at HL hl hm
  obtain ⟨L, hL⟩ : ∃ L, L = cL C := ⟨_, rfl⟩
  rw [← hL] at hL1 hL2 ⊢
  have HLL := Lib.hid hL
  have hlt : (l : Int) < (x : Int) := by omega
  have hn0 : ¬ ((l : Int) < 0) := by omega
  have hng : ¬ ((x : Int) ≤ (l : Int)) := by omega
  have hd : (l : Int) / (L : Int) = ((l / L : Nat) : Int) := by omega
  obtain ⟨d, hdd⟩ : ∃ d, d = l / L := ⟨_, rfl⟩
  rw [← hdd] at hd ⊢
  have hdb : d ≤ 16384 := by rw [hdd]; exact Nat.le_trans (Nat.div_le_self _ _) (by omega)
  have hdw : IntKind.i64.wrap (d : Int) = d := IntWalk.i64_in _ (by omega)
  clear h hx hL hdd hl
  go_enter Tryz.func40, Tryz.ntmps40
  go_wp2_with fail
  with_reducible refine HL.out.mono ?_
  rintro e w2 ⟨rfl, g2⟩
  have c1 := (H.out.gr0 g2).c1
  rw [← HLL.out] at c1
  have HG := Lib.hid g2
  clear g2
  go_wp2_with fail
  go_ret
  exact ⟨rfl, HG.out⟩
theorem fregion_out (l : Int) (h : FlIs w A a C B m j c) (hl : l < 0 ∨ ((cR C * cL C : Nat) : Int) ≤ l) : Calls Tryz.prog 40 #[.pointer (some ⟨A.fb, 0, none⟩), .int .i64 l] w fun e w' => e = .returned (.int .i64 (-1)) ∧ Gr [] w w' := by
  have HL := Lib.hid (flines_in h)
  have hm := h.ok.mul
  obtain ⟨x, hx⟩ : ∃ x, x = cR C * cL C := ⟨_, rfl⟩
  rw [← hx] at HL hl hm
  clear h hx
  by_cases h0 : l < 0
  · clear hl
    go_enter Tryz.func40, Tryz.ntmps40
    go_wp2_with fail
    go_ret
    exact ⟨rfl, Gr.refl _ _⟩
  · have h1 : (x : Int) ≤ l := by omega
    clear hl
    go_enter Tryz.func40, Tryz.ntmps40
    go_wp2_with fail
    with_reducible refine HL.out.mono ?_
    rintro e w2 ⟨rfl, g2⟩
    have HG := Lib.hid g2
    clear g2
    go_wp2_with fail
    go_ret
    exact ⟨rfl, HG.out⟩
theorem ffind_out (l : Int) (h : FlIs w A a C B m j c) (hl : l < 0 ∨ ((cR C * cL C : Nat) : Int) ≤ l) : Calls Tryz.prog 59 #[.pointer (some ⟨A.fb, 0, none⟩), .int .i64 l] w fun e w' => e = .returned (.tuple #[.pointer none, .int .i64 0, .int .i64 3]) ∧ Gr [] w w' := by
  have HR := Lib.hid (fregion_out l h hl)
  clear h hl
  go_enter Tryz.func59, Tryz.ntmps59
  go_wp2_with fail
  with_reducible refine HR.out.mono ?_
  rintro e w2 ⟨rfl, g2⟩
  have HG := Lib.hid g2
  clear g2
  go_wp2_with fail
  exact bodyPost_ret (v := .tuple #[.pointer none, .int .i64 0, .int .i64 3]) (by simp [results, Tryz.results59, go_sem]) rfl ⟨rfl, HG.out⟩
set_option maxRecDepth 100000 in
set_option maxHeartbeats 8000000 in
theorem ffind_in (l : Nat) (h : FlIs w A a C B m j c) (hl : l < cR C * cL C) : Calls Tryz.prog 59 #[.pointer (some ⟨A.fb, 0, none⟩), .int .i64 (l : Int)] w fun e w' => e = .returned (.tuple #[.pointer (some ⟨A.kb (l / cL C), 0, none⟩), .int .i64 ((toC C (l / cL C) (l % cL C) : Nat) : Int), .int .i64 0]) ∧ Gr [] w w' := by
  have HR := Lib.hid (fregion_in l h hl)
  have H := Lib.hid h
  have hL1 : 1 ≤ cL C := by have := h.ok.nums; omega
  have hL2 : cL C ≤ 1024 := by have := h.ok.nums; omega
  have hq : l / cL C < cR C := Nat.div_lt_of_lt_mul (by rw [Nat.mul_comm]; exact hl)
  have hi : l % cL C < cL C := Nat.mod_lt _ (by omega)
  have hqr : cR C ≤ 16 := by have := h.ok.nums; omega
  have hl16 : l < 16384 := by have := h.ok.mul; omega
  have HTo := Lib.hid (fun W => to_call h.ok (l / cL C) (l % cL C) hi W)
  have HPm := Lib.hid (fun (W : World) (x : Kp w W) => (h.kp x).perms (l / cL C) hq)
  have HRs := Lib.hid (fun (W : World) (x : Kp w W) => (h.kp x).regs (l / cL C) hq)
  obtain ⟨kb, hkb⟩ : ∃ k, k = A.kb (l / cL C) := ⟨_, rfl⟩
  obtain ⟨t, ht⟩ : ∃ t, t = toC C (l / cL C) (l % cL C) := ⟨_, rfl⟩
  obtain ⟨p0, p1, p2, p3, p4, p5, hp⟩ : ∃ p0 p1 p2 p3 p4 p5, permRow C (l / cL C) = #[.int .i64 p0, .int .i64 p1, .int .u16 p2, .int .u16 p3, .int .u16 p4, .int .u16 p5] := ⟨_, _, _, _, _, _, rfl⟩
  rw [← hkb] at HRs ⊢
  rw [← ht] at HTo ⊢
  rw [hp] at HTo HPm
  obtain ⟨L, hL⟩ : ∃ L, L = cL C := ⟨_, rfl⟩
  obtain ⟨R, hR⟩ : ∃ R, R = cR C := ⟨_, rfl⟩
  rw [← hL] at hL1 hL2 HR HTo HPm HRs hq hi
  rw [← hR] at hq hqr
  have hmod : (l : Int) % (L : Int) = ((l % L : Nat) : Int) := by omega
  obtain ⟨i, hie⟩ : ∃ i, i = l % L := ⟨_, rfl⟩
  obtain ⟨q, hqe⟩ : ∃ q, q = l / L := ⟨_, rfl⟩
  rw [← hie] at hmod HTo hi
  rw [← hqe] at HR HPm HRs hq
  have hqw : IntKind.i64.wrap (q : Int) = q := IntWalk.i64_in _ (by omega)
  have hiw : IntKind.i64.wrap (i : Int) = i := IntWalk.i64_in _ (by omega)
  have HLR := Lib.hid (And.intro hL hR)
  have hqn : ¬ ((q : Int) < 0) := by omega
  have hqi : (q : Int) < (R : Int) := by omega
  clear h hl hp hkb ht hL hR hie hqe
  go_enter Tryz.func59, Tryz.ntmps59
  go_wp2_with fail
  with_reducible refine HR.out.mono ?_
  rintro e w2 ⟨rfl, g2⟩
  have x2 : Kp w w2 := g2.below0
  have r0 := HRs.out w2 x2
  have c1 := (H.out.gr0 g2).c1
  have c5 := (H.out.gr0 g2).c5
  have c6 := (H.out.gr0 g2).c6
  rw [← HLR.out.1] at c1
  rw [← HLR.out.2] at c5 c6
  have y0 := HPm.out w2 x2 0 _ rfl
  rw [Nat.add_zero] at y0
  have y1 := HPm.out w2 x2 1 _ rfl
  have y2 := HPm.out w2 x2 2 _ rfl
  have y3 := HPm.out w2 x2 3 _ rfl
  have y4 := HPm.out w2 x2 4 _ rfl
  have y5 := HPm.out w2 x2 5 _ rfl
  have HG := Lib.hid g2
  clear g2 x2
  have k0 := kp_cell r0
  have k1 := kp_cell c1
  have k5 := kp_cell c5
  have k6 := kp_cell c6
  have z0 := kp_cell y0
  have z1 := kp_cell y1
  have z2 := kp_cell y2
  have z3 := kp_cell y3
  have z4 := kp_cell y4
  have z5 := kp_cell y5
  have hne := kp_ne w2
  clear r0 c1 c5 c6 y0 y1 y2 y3 y4 y5
  go_wp2_with fail
  refine wp_region_kp (by kernel_rfl) (by kernel_rfl) ?_
  repeat (go_big_quiet_step ((rename_i x; with_reducible exact kp_call x (HTo.out _))))
  with_reducible refine wpQuiet_nil ?_
  rintro _ ⟨y, rfl⟩
  have HG2 := Lib.hid (HG.out.nextB y.h)
  clear k0 k1 k5 k6 z0 z1 z2 z3 z4 z5 hne
  generalize y.w = w3 at *
  clear y
  go_wp2_with fail
  exact bodyPost_ret (v := .tuple #[.pointer (some ⟨kb, 0, none⟩), .int .i64 (t : Int), .int .i64 0]) (by simp [results, Tryz.results59, go_sem]) rfl ⟨rfl, HG2.out⟩
end
end Go.Proofs.YtjbhallhmnahbaaGreat

/-
  Layer 9: Where, Read, Write, WriteWord of a list that there is.
-/
namespace Go.Proofs.YtjbhallhmnahbaaGreat
open Go.RowKit
set_option linter.unusedVariables false

section
variable {w w' : World} {kb : Nat} {q : BkA} {a : DevA} {P : PlanR} {B : BkS} {m j c cc : Nat} {D : DevS}
set_option maxRecDepth 100000 in
set_option maxHeartbeats 8000000 in
theorem rgwhere9 (i : Nat) (hi : i < P.l) (h : RgIs w kb q a P B m j c) :
    Calls Tryz.prog 75 #[.pointer (some ⟨kb, 0, none⟩), .int .i64 (i : Int)] w fun e w' => e = .returned (.tuple #[.int .i64 (placeP (bankR P) B (slotJ P j i)), .int .i64 0]) ∧ Gr [] w w' := by
  have hz : inP (bankR P) (slotJ P j i) := by
    rw [slotJ_N P j i h.ok.l1]
    have := slotN_le (j := j) (i := i) h.ok.l1
    exact inR P (by omega) (by omega)
  have HF := Lib.hid (rfind_in i h hi)
  have HS := Lib.hid (fun W (g : Gr [] w W) => rslot_any i (h.gr0 g) hi)
  have HR := Lib.hid (fun W (g : Gr [] w W) => where_in (slotJ P j i) (h.bk.gr0 g) hz)
  obtain ⟨R, hR⟩ : ∃ R, R = placeP (bankR P) B (slotJ P j i) := ⟨_, rfl⟩
  rw [← hR] at HR ⊢
  have k4 := kp_cell (a := ⟨kb, 4, none⟩) h.c4
  have hne := kp_ne w
  clear h hi hR hz
  generalize slotJ P j i = z at *
  go_enter Tryz.func75, Tryz.ntmps75
  go_wp2_with fail
  refine HF.out.mono ?_
  rintro e w' ⟨rfl, rfl⟩
  go_wp2_with fail
  refine wp_region_kp (by kernel_rfl) (by kernel_rfl) ?_
  repeat (go_big_quiet_step ((rename_i x; first
    | exact kp_call x ((HS.out _ (Gr.ofBelow x.h)).mono fun _ _ q => ⟨q.1, q.2.below0⟩)
    | exact kp_call x ((HR.out _ (Gr.ofBelow x.h)).mono fun _ _ q => ⟨q.1, q.2.below0⟩))))
  with_reducible refine wpQuiet_nil ?_
  rintro _ ⟨y, rfl⟩
  have HG := Lib.hid (Gr.ofBelow (cs := []) y.h)
  clear k4 hne
  generalize y.w = w2 at *
  go_wp2_with fail
  exact bodyPost_ret (v := .tuple #[.int .i64 R, .int .i64 0]) (by simp [results, Tryz.results75, go_sem]) rfl ⟨rfl, HG.out⟩
end
section
variable {w w' : World} {A : FlA} {a : DevA} {C : CfgZ} {B : Nat → BkS} {m : Nat} {j c : Nat → Nat} {D : DevS} {cc : Nat}
def qL (C : CfgZ) (l : Nat) : Nat := l / cL C
noncomputable def iL (C : CfgZ) (l : Nat) : Nat := toC C (l / cL C) (l % cL C)
theorem qi_in (h : OkC C) {l : Nat} (hl : l < cR C * cL C) : qL C l < cR C ∧ iL C l < cL C := by
  have hL1 : 1 ≤ cL C := by have := h.nums; omega
  exact ⟨Nat.div_lt_of_lt_mul (by rw [Nat.mul_comm]; exact hl), toC_lt h _ (Nat.mod_lt _ (by omega))⟩
theorem qi_inj (h : OkC C) {l l2 : Nat} (hl : l < cR C * cL C) (hl2 : l2 < cR C * cL C) (hq : qL C l = qL C l2) (hi : iL C l = iL C l2) : l = l2 := by
  have hL1 : 1 ≤ cL C := by have := h.nums; omega
  unfold qL at hq
  unfold iL at hi
  rw [hq] at hi
  have hm := toC_inj h _ (Nat.mod_lt _ (by omega)) (Nat.mod_lt _ (by omega)) hi
  rw [← Nat.div_add_mod l (cL C), ← Nat.div_add_mod l2 (cL C), hq, hm]
theorem fwhere_in (l : Nat) (h : FlIs w A a C B m j c) (hl : l < cR C * cL C) :
    Calls Tryz.prog 31 #[.pointer (some ⟨A.fb, 0, none⟩), .int .i64 (l : Int)] w fun e w' => e = .returned (.tuple #[.int .i64 (placeP (bankR (regC C (qL C l))) (B (qL C l)) (slotJ (regC C (qL C l)) (j (qL C l)) (iL C l))), .int .i64 0]) ∧ Gr [] w w' := by
  have HF := Lib.hid (ffind_in l h hl)
  obtain ⟨hq, hi⟩ := qi_in h.ok hl
  have HW := Lib.hid (fun W (g : Gr [] w W) => rgwhere9 (iL C l) (by rw [(h.ok.reg hq).2.2.2.1]; exact hi) ((h.gr0 g).rg (qL C l) hq))
  obtain ⟨R, hR⟩ : ∃ R, R = placeP (bankR (regC C (qL C l))) (B (qL C l)) (slotJ (regC C (qL C l)) (j (qL C l)) (iL C l)) := ⟨_, rfl⟩
  rw [← hR] at HW ⊢
  unfold qL iL at HW
  clear h hl hR hq hi
  generalize A.kb (l / cL C) = kb at *
  generalize toC C (l / cL C) (l % cL C) = t at *
  go_enter Tryz.func31, Tryz.ntmps31
  go_wp2_with fail
  with_reducible refine HF.out.mono ?_
  rintro e w2 ⟨rfl, g2⟩
  have HG := Lib.hid g2
  clear g2
  go_wp2_with fail
  with_reducible refine (HW.out _ HG.out).mono ?_
  rintro e w3 ⟨rfl, g3⟩
  have HG3 := Lib.hid (HG.out.trans g3)
  clear g3
  go_wp2_with fail
  exact bodyPost_ret (v := .tuple #[.int .i64 R, .int .i64 0]) (by simp [results, Tryz.results31, go_sem]) rfl ⟨rfl, HG3.out⟩
theorem fread_in (l : Nat) (h : FlIs w A a C B m j c) (hl : l < cR C * cL C) (hd : DevIs w a D) (hn : sizeC C ≤ (D.n : Int)) :
    Calls Tryz.prog 22 #[.pointer (some ⟨A.fb, 0, none⟩), .int .i64 (l : Int)] w fun e w' => e = .returned (.tuple #[.string (readR D (bankR (regC C (qL C l))) (B (qL C l)) (slotJ (regC C (qL C l)) (j (qL C l)) (iL C l))).1, .int .i64 (readR D (bankR (regC C (qL C l))) (B (qL C l)) (slotJ (regC C (qL C l)) (j (qL C l)) (iL C l))).2]) ∧ Gr [] w w' := by
  have HF := Lib.hid (ffind_in l h hl)
  obtain ⟨hq, hi⟩ := qi_in h.ok hl
  obtain ⟨r1, r2, r3, r4, r5, r6, r7, r8⟩ := h.ok.reg hq
  have HW := Lib.hid (fun W (g : Gr [] w W) => rgread_any (iL C l) (by rw [r4]; exact hi) ((h.gr0 g).rg (qL C l) hq) (hd.gr0 g) (by rw [r2]; show (regC C (qL C l)).a + regS C ≤ _; omega))
  obtain ⟨R, hR⟩ : ∃ R, R = readR D (bankR (regC C (qL C l))) (B (qL C l)) (slotJ (regC C (qL C l)) (j (qL C l)) (iL C l)) := ⟨_, rfl⟩
  rw [← hR] at HW ⊢
  unfold qL iL at HW
  obtain ⟨R1, R2⟩ := R
  simp only at HW ⊢
  clear h hl hR hq hi r1 r2 r3 r4 r5 r6 r7 r8 hd hn
  generalize A.kb (l / cL C) = kb at *
  generalize toC C (l / cL C) (l % cL C) = t at *
  go_enter Tryz.func22, Tryz.ntmps22
  go_wp2_with fail
  with_reducible refine HF.out.mono ?_
  rintro e w2 ⟨rfl, g2⟩
  have HG := Lib.hid g2
  clear g2
  go_wp2_with fail
  with_reducible refine (HW.out _ HG.out).mono ?_
  rintro e w3 ⟨rfl, g3⟩
  have HG3 := Lib.hid (HG.out.trans g3)
  clear g3
  go_wp2_with fail
  exact bodyPost_ret (v := .tuple #[.string R1, .int .i64 R2]) (by simp [results, Tryz.results22, go_sem]) rfl ⟨rfl, HG3.out⟩
theorem fread_out (l : Int) (h : FlIs w A a C B m j c) (hl : l < 0 ∨ ((cR C * cL C : Nat) : Int) ≤ l) :
    Calls Tryz.prog 22 #[.pointer (some ⟨A.fb, 0, none⟩), .int .i64 l] w fun e w' => e = .returned (.tuple #[.string ⟨#[]⟩, .int .i64 3]) ∧ Gr [] w w' := by
  have HF := Lib.hid (ffind_out l h hl)
  clear h hl
  go_enter Tryz.func22, Tryz.ntmps22
  go_wp2_with fail
  with_reducible refine HF.out.mono ?_
  rintro e w2 ⟨rfl, g2⟩
  have HG := Lib.hid g2
  clear g2
  go_wp2_with fail
  exact bodyPost_ret (v := .tuple #[.string ⟨#[]⟩, .int .i64 3]) (by simp [results, Tryz.results22, go_sem]) rfl ⟨rfl, HG.out⟩
def FlPost (w : World) (A : FlA) (a : DevA) (C : CfgZ) (B : Nat → BkS) (m : Nat) (j c : Nat → Nat) (cc q : Nat) (X : Int × DevS × BkS × Nat × Nat) (e : Ending) (w' : World) : Prop :=
  e = .returned (.int .i64 X.1) ∧ DevIs w' a X.2.1 ∧ Bd X.2.1 (cc + 4200) ∧ FlIs w' A a C (updN B q X.2.2.1) (m + 192) (updN j q X.2.2.2.1) (updN c q X.2.2.2.2) ∧ Gr (A.all (cR C) ++ a.all) w w'
theorem fwrite_in (l : Nat) (s : ByteArray) (h : FlIs w A a C B m j c) (hl : l < cR C * cL C) (hd : DevIs w a D) (hb : Bd D cc) (hcc : cc < 500000) (hm : m < 70000) (hs : s.size = 64) (hj : j (qL C l) < 4294967295) (hn : sizeC C ≤ (D.n : Int))
    (hn1 : (regC C (qL C l)).psi ≤ (c (qL C l) : Int) → (readR D (bankR (regC C (qL C l))) (B (qL C l)) (fromI (regC C (qL C l)) (j (qL C l)))).2 = 0 ∧ (writeS (bankR (regC C (qL C l))) (toI (regC C (qL C l)) (j (qL C l))) (readR D (bankR (regC C (qL C l))) (B (qL C l)) (fromI (regC C (qL C l)) (j (qL C l)))).1 D (B (qL C l))).2.1.n = D.n ∧ (movZ (regC C (qL C l)) D (B (qL C l)) (j (qL C l))).2.1.n = D.n) :
    Calls Tryz.prog 18 #[.pointer (some ⟨A.fb, 0, none⟩), .int .i64 (l : Int), .string s] w (FlPost w A a C B m j c cc (qL C l) (regZ (regC C (qL C l)) (iL C l) (fun z => writeS (bankR (regC C (qL C l))) z s) D (B (qL C l)) (j (qL C l)) (c (qL C l)))) := by
  have HF := Lib.hid (ffind_in l h hl)
  obtain ⟨hq, hi⟩ := qi_in h.ok hl
  obtain ⟨r1, r2, r3, r4, r5, r6, r7, r8⟩ := h.ok.reg hq
  have HW := Lib.hid (fun W (g : Gr [] w W) => rgwrite_any (iL C l) s ((h.gr0 g).rg (qL C l) hq) (hd.gr0 g) hb hcc hm (by rw [r4]; exact hi) hs hj (by rw [r2]; show (regC C (qL C l)).a + regS C ≤ _; omega) hn1)
  obtain ⟨X, hX⟩ : ∃ X, X = regZ (regC C (qL C l)) (iL C l) (fun z => writeS (bankR (regC C (qL C l))) z s) D (B (qL C l)) (j (qL C l)) (c (qL C l)) := ⟨_, rfl⟩
  rw [← hX] at HW ⊢
  have HFin := Lib.hid (fun (W W' : World) (g : Gr [] w W) (g' : Gr (A.kb (qL C l) :: ((A.q (qL C l)).all ++ a.all)) W W') (k : RgIs W' (A.kb (qL C l)) (A.q (qL C l)) a (regC C (qL C l)) X.2.2.1 (m + 192) X.2.2.2.1 X.2.2.2.2) => And.intro ((h.gr0 g).upd hq g' k (by omega)) (show Gr (A.all (cR C) ++ a.all) w W' from (g.of0).trans (g'.mono fun x hx => by
    rcases List.mem_cons.1 hx with rfl | hx
    · exact List.mem_append.2 (.inl (FlA.mem hq (by simp [FlA.reg])))
    · rcases List.mem_append.1 hx with hx | hx
      · exact List.mem_append.2 (.inl (FlA.mem hq (by simp [FlA.reg, hx])))
      · exact List.mem_append.2 (.inr hx))))
  have HFind := Lib.hid (show Calls Tryz.prog 59 #[.pointer (some ⟨A.fb, 0, none⟩), .int .i64 (l : Int)] w (fun e w' => e = .returned (.tuple #[.pointer (some ⟨A.kb (qL C l), 0, none⟩), .int .i64 ((iL C l : Nat) : Int), .int .i64 0]) ∧ Gr [] w w') from HF.out)
  have hs1 : ((s.size : Int) != 64) = false := by rw [hs]; rfl
  have hs2 : (s.size != 64) = false := by rw [hs]; rfl
  unfold FlPost
  unfold RgPost at HW
  clear h hl hX hq hi r1 r2 r3 r4 r5 r6 r7 r8 hd hn hn1 hj hs HF hb
  generalize A.kb (qL C l) = kb at *
  generalize iL C l = t at *
  go_enter Tryz.func18, Tryz.ntmps18
  go_wp2_with fail
  with_reducible refine HFind.out.mono ?_
  rintro e w2 ⟨rfl, g2⟩
  have HG := Lib.hid g2
  clear g2
  go_wp2_with fail
  with_reducible refine (HW.out _ HG.out).mono ?_
  rintro e w3 ⟨rfl, d3, b3, k3, g3⟩
  have H3 := Lib.hid (And.intro d3 (And.intro b3 (HFin.out _ _ HG.out g3 k3)))
  clear d3 b3 k3 g3
  go_wp2_with fail
  go_ret
  exact ⟨rfl, H3.out.1, H3.out.2.1, H3.out.2.2.1, H3.out.2.2.2⟩
end
end Go.Proofs.YtjbhallhmnahbaaGreat
