/-
  HkBf: HtD, HtE, HtF.
-/
import Derived.Test.YtefmbchebobceaaGreatHkBe
import Derived.Test.YtefmbchebobceaaGreatHkAm
import Derived.Deep.AppendLies
import Derived.Deep.RegionLaw

set_option linter.unusedVariables false

/-
  Layer 10: how many pages a config has; a place's word.
-/
namespace Go.Proofs.YtefmbchebobceaaGreat
open Go.RowKit
set_option linter.unusedVariables false

def restC (C : CfgZ) : Nat := (C.r * C.l / 8 - C.r).toNat
def pgC (C : CfgZ) : Nat := if sizeC C = 0 ∨ ¬ C.l % 8 = 0 then 0 else pgN (restC C) (restC C)
def tbC (C : CfgZ) : Nat := (pgC C + 63) / 64
def freeC (C : CfgZ) : Int := if pgC C = 0 then 0 else C.r
theorem sizeC_in {C : CfgZ} (h : ¬ sizeC C = 0) : 1 ≤ C.r ∧ C.r ≤ 16 ∧ 1 ≤ C.l ∧ C.l ≤ 1024 := by
  unfold sizeC at h
  split at h
  · rename_i q
    exact ⟨q.1, q.2.1, q.2.2.1, q.2.2.2.1⟩
  · exact absurd rfl h
theorem rest_in {C : CfgZ} (h : ¬ sizeC C = 0) (h8 : C.l % 8 = 0) : ∃ H : Nat, C.r * C.l = ((8 * H : Nat) : Int) ∧ H ≤ 2048 ∧ C.r.toNat ≤ H ∧ restC C = H - C.r.toNat := by
  obtain ⟨a1, a2, a3, a4⟩ := sizeC_in h
  obtain ⟨L, hL⟩ : ∃ L : Nat, C.l = 8 * (L : Int) := ⟨(C.l / 8).toNat, by omega⟩
  obtain ⟨R, hR⟩ : ∃ R : Nat, C.r = (R : Int) := ⟨C.r.toNat, by omega⟩
  have hRL : R * L ≤ 16 * 128 := Nat.mul_le_mul (by omega) (by omega)
  have hRL2 : R * 1 ≤ R * L := Nat.mul_le_mul_left R (by omega)
  have e : C.r * C.l = ((8 * (R * L) : Nat) : Int) := by
    rw [hL, hR, Int.natCast_mul, Int.natCast_mul, ← Int.mul_assoc, Int.mul_comm (R : Int) 8, Int.mul_assoc]
    rfl
  refine ⟨R * L, e, by omega, by omega, ?_⟩
  unfold restC
  rw [e]
  omega
set_option maxRecDepth 100000 in
set_option maxHeartbeats 8000000 in
theorem plan_any (C : CfgZ) (hC : wfC C) (w : World) : Calls Tryz.prog 44 #[cfgV C] w fun e w' => e = .returned (.agg #[.int .i64 (pgC C : Int), .int .i64 (tbC C : Int), .int .i64 (freeC C)]) ∧ Gr [] w w' := by
  have HS := Lib.hid (fun W => show Calls Tryz.prog 43 #[.agg #[.int .i64 C.r, .int .i64 C.l, .int .i64 C.s, .int .i64 C.psi, .int .u64 (C.key : Int)]] W _ from csize_any C hC W)
  have hb := sizeC_b C
  have hh := Holds.new w (cfgRow C) 39
  have ga := (Gr.refl [] w).alloc (Obj.cells (cfgRow C) 39)
  have gb := ga.alloc (Obj.cells #[.int .i64 0, .int .i64 0, .int .i64 0] 104)
  have hr := Holds.new (w.alloc (Obj.cells (cfgRow C) 39)) #[.int .i64 0, .int .i64 0, .int .i64 0] 104
  have h1 := hh.alloc (Obj.cells #[.int .i64 0, .int .i64 0, .int .i64 0] 104)
  have hs : (w.alloc (Obj.cells (cfgRow C) 39)).heap.size = w.heap.size + 1 := World.size_alloc _ _
  rw [hs] at hr
  have H1 := Lib.hid (And.intro h1 (And.intro hr gb))
  unfold cfgRow at H1
  unfold cfgV
  clear hh ga gb hr h1 hs
  obtain ⟨S, hS⟩ : ∃ S, S = sizeC C := ⟨_, rfl⟩
  rw [← hS] at HS hb
  go_enter Tryz.func44, Tryz.ntmps44
  go_upto_region 1 with fail
  generalize ((w.alloc (Obj.cells #[.int .i64 C.r, .int .i64 C.l, .int .i64 C.s, .int .i64 C.psi, .int .u64 (C.key : Int)] 39)).alloc (Obj.cells #[.int .i64 0, .int .i64 0, .int .i64 0] 104)) = w1 at *
  obtain ⟨cb, hcb⟩ : ∃ cb, cb = w.heap.size := ⟨_, rfl⟩
  rw [← hcb] at H1 ⊢
  have HCB := Lib.hid hcb
  clear hcb
  have c0 := H1.out.1.cell 0
  have c1 := H1.out.1.cell 1
  have c2 := H1.out.1.cell 2
  have c3 := H1.out.1.cell 3
  have c4 := H1.out.1.cell 4
  have RES : ∀ (x y z : Int) (W : World) (g : Gr [] w W) (r : Holds W (cb + 1) #[.int .i64 x, .int .i64 y, .int .i64 z] 104), True := fun _ _ _ _ _ _ => trivial
  clear RES
  by_cases h0 : S = 0
  · subst h0
    have hp : pgC C = 0 := by unfold pgC; rw [if_pos (.inl hS.symm)]
    have HP := Lib.hid hp
    clear hp hS hb
    go_wp2_with fail
    refine (HS.out _).mono ?_
    rintro e w2 ⟨rfl, g2⟩
    have H2 := Lib.hid (And.intro (H1.out.2.1.gr0 g2) (H1.out.2.2.trans g2))
    clear g2 c0 c1 c2 c3 c4 H1 HS
    have r0 := H2.out.1.cell 0
    have r1 := H2.out.1.cell 1
    have r2 := H2.out.1.cell 2
    have f0 := H2.out.1.frozen 0
    have f1 := H2.out.1.frozen 1
    have f2 := H2.out.1.frozen 2
    go_wp2_with fail
    refine bodyPost_ret (v := .agg #[.int .i64 0, .int .i64 0, .int .i64 0]) (by simp [results, Tryz.results44, go_sem, *]) rfl ⟨?_, ?_⟩
    · unfold tbC freeC
      rw [HP.out]
      rfl
    · repeat (with_reducible first | exact H2.out.2 | refine Gr.setCell ?_ (.inr (by have := HCB.out; (try dsimp only); omega)) _)
  · have h0b : (S == 0) = false := by simpa using h0
    have hin := sizeC_in (C := C) (by rw [← hS]; exact h0)
    have hl0 : 0 ≤ C.l := by omega
    have hl8 : C.l.tmod 8 = C.l % 8 := Int.tmod_eq_emod_of_nonneg hl0
    have hw8 : IntKind.i64.wrap (C.l % 8) = C.l % 8 := IntWalk.i64_in _ (by omega)
    by_cases h8 : C.l % 8 = 0
    · obtain ⟨H, q1, q2, q3, q4⟩ := rest_in (C := C) (by rw [← hS]; exact h0) h8
      have hpg : pgC C = pgN (restC C) (restC C) := by
        unfold pgC
        rw [if_neg]
        rintro (e | e)
        · exact h0 (by rw [hS]; exact e)
        · exact e h8
      obtain ⟨R, hR⟩ : ∃ R : Nat, C.r = (R : Int) := ⟨C.r.toNat, by omega⟩
      obtain ⟨N8, hN8⟩ : ∃ N8, N8 = 8 * H := ⟨_, rfl⟩
      obtain ⟨R0, hR0⟩ : ∃ R0, R0 = restC C := ⟨_, rfl⟩
      rw [← hN8] at q1
      rw [← hR0] at hpg q4
      have m1 : IntKind.i64.wrap (C.r * C.l) = (N8 : Int) := by rw [q1]; exact IntWalk.i64_in _ (by omega)
      have m2 : (N8 : Int).tdiv 8 = (H : Int) := by rw [Int.tdiv_eq_ediv_of_nonneg (by omega)]; omega
      have m3 : IntKind.i64.wrap (H : Int) = (H : Int) := IntWalk.i64_in _ (by omega)
      have m4 : IntKind.i64.wrap ((H : Int) - C.r) = (R0 : Int) := by rw [show (H : Int) - C.r = (R0 : Int) by omega]; exact IntWalk.i64_in _ (by omega)
      have HP := Lib.hid (And.intro hpg (And.intro hR (And.intro (show 1 ≤ R ∧ R ≤ 16 by omega) (show R0 ≤ 2048 by omega))))
      clear q1 q2 q3 q4 hN8 hR0 hpg hR hS hb h0 hin
      rw [h8] at hl8 hw8
      clear h8
      go_wp2_with fail
      refine (HS.out _).mono ?_
      rintro e w2 ⟨rfl, g2⟩
      have H2 := Lib.hid (And.intro (H1.out.1.gr0 g2) (And.intro (H1.out.2.1.gr0 g2) (H1.out.2.2.trans g2)))
      clear g2 c0 c1 c2 c3 c4 H1 HS
      have c0 := H2.out.1.cell 0
      have c1 := H2.out.1.cell 1
      go_wp2_with fail
      clear m1 m2 m3 m4 c0 c1 hl8 hw8 hl0 h0b
      go_loopw [4] (fun gv wr => ∃ g : Nat, gv = .int .i64 (g : Int) ∧ g ≤ R0 ∧ pgC C = pgN R0 g ∧ Holds wr cb #[.int .i64 C.r, .int .i64 C.l, .int .i64 C.s, .int .i64 C.psi, .int .u64 (C.key : Int)] 39 ∧ Holds wr (cb + 1) #[.int .i64 0, .int .i64 0, .int .i64 0] 104 ∧ Gr [] w wr) (fun gv _ => (intOf gv).toNat)
      case atStart => exact ⟨R0, rfl, Nat.le_refl _, HP.out.1, H2.out.1, H2.out.2.1, H2.out.2.2⟩
      case round =>
        clear H2
        obtain ⟨g, rfl, a1, a2, a3, a4, a5⟩ := hrel
        have HH := Lib.hid (And.intro a2 (And.intro a3 (And.intro a4 a5)))
        have hR0 := HP.out.2.2.2
        clear a2 a3 a4 a5
        have c0 := HH.out.2.1.cell 0
        have r0 := HH.out.2.2.1.cell 0
        have r1 := HH.out.2.2.1.cell 1
        have r2 := HH.out.2.2.1.cell 2
        have f0 := HH.out.2.2.1.frozen 0
        have f1 := HH.out.2.2.1.frozen 1
        have f2 := HH.out.2.2.1.frozen 2
        by_cases hg : g = 0
        · subst hg
          go_wp2_with fail
          refine bodyPost_ret (v := .agg #[.int .i64 0, .int .i64 0, .int .i64 0]) (by simp [results, Tryz.results44, go_sem, *]) rfl ⟨?_, ?_⟩
          · have e : pgC C = 0 := HH.out.1
            unfold tbC freeC
            rw [e]
            rfl
          · repeat (with_reducible first | exact HH.out.2.2.2 | refine Gr.setCell ?_ (.inr (by have := HCB.out; (try dsimp only); omega)) _)
        · obtain ⟨p, hp⟩ : ∃ p, g = p + 1 := ⟨g - 1, by omega⟩
          have hg1 : (1 : Int) ≤ (g : Int) := by omega
          obtain ⟨g64, h64⟩ : ∃ x, x = g + 64 := ⟨_, rfl⟩
          obtain ⟨g63, h63⟩ : ∃ x, x = g + 63 := ⟨_, rfl⟩
          obtain ⟨t, ht⟩ : ∃ x, x = (g + 63) / 64 := ⟨_, rfl⟩
          obtain ⟨gt, hgt⟩ : ∃ x, x = g + t := ⟨_, rfl⟩
          have w1 : IntKind.i64.wrap ((g : Int) + 64) = (g64 : Int) := by rw [show (g : Int) + 64 = (g64 : Int) by omega]; exact IntWalk.i64_in _ (by omega)
          have w2' : IntKind.i64.wrap ((g64 : Int) - 1) = (g63 : Int) := by rw [show (g64 : Int) - 1 = (g63 : Int) by omega]; exact IntWalk.i64_in _ (by omega)
          have w3 : (g63 : Int).tdiv 64 = (t : Int) := by rw [Int.tdiv_eq_ediv_of_nonneg (by omega)]; omega
          have w4 : IntKind.i64.wrap (t : Int) = (t : Int) := IntWalk.i64_in _ (by omega)
          have w5 : IntKind.i64.wrap ((g : Int) + (t : Int)) = (gt : Int) := by rw [show (g : Int) + (t : Int) = (gt : Int) by omega]; exact IntWalk.i64_in _ (by omega)
          have w6 : IntKind.i64.wrap ((g : Int) - 1) = (p : Int) := by rw [show (g : Int) - 1 = (p : Int) by omega]; exact IntWalk.i64_in _ (by omega)
          have HG := Lib.hid (And.intro hp (And.intro ht hgt))
          clear hp ht hgt h63 h64 hg
          by_cases hf : gt ≤ R0
          · have hf1 : (gt : Int) ≤ (R0 : Int) := by omega
            have hpg : pgC C = g := by
              obtain ⟨e1, e2, e3⟩ := HG.out
              rw [HH.out.1, e1, pgN, if_pos]
              have : (p + 64) / 64 = (g + 63) / 64 := by congr 1; omega
              omega
            have HF := Lib.hid hpg
            clear hpg
            go_wp2_with fail
            refine bodyPost_ret (v := .agg #[.int .i64 (g : Int), .int .i64 (t : Int), .int .i64 C.r]) (by simp [results, Tryz.results44, go_sem, *]) rfl ⟨?_, ?_⟩
            · obtain ⟨e1, e2, e3⟩ := HG.out
              unfold tbC freeC
              rw [HF.out, if_neg (by omega), ← e2]
            · repeat (with_reducible first | exact HH.out.2.2.2 | refine Gr.setCell ?_ (.inr (by have := HCB.out; (try dsimp only); omega)) _)
          · have hf1 : ¬ (gt : Int) ≤ (R0 : Int) := by omega
            have hpg : pgC C = pgN R0 p := by
              obtain ⟨e1, e2, e3⟩ := HG.out
              rw [HH.out.1, e1, pgN, if_neg]
              have : (p + 64) / 64 = (g + 63) / 64 := by congr 1; omega
              omega
            have HF := Lib.hid (And.intro hpg (show p ≤ R0 ∧ p < g by have := HG.out.1; omega))
            clear hpg
            go_wp2_with fail
            go_roundw
            case rel => exact ⟨p, rfl, HF.out.2.1, HF.out.1, HH.out.2.1, HH.out.2.2.1, HH.out.2.2.2⟩
            case measure => have := HF.out; simp [intOf]; omega
    · have hp : pgC C = 0 := by unfold pgC; rw [if_pos (.inr h8)]
      have HP := Lib.hid hp
      have h8b : (C.l % 8 != 0) = true := by simpa using h8
      obtain ⟨l8, hl⟩ : ∃ l8, l8 = C.l % 8 := ⟨_, rfl⟩
      rw [← hl] at hl8 hw8 h8b h8
      clear hp hS hb h0 hl hin
      go_wp2_with fail
      refine (HS.out _).mono ?_
      rintro e w2 ⟨rfl, g2⟩
      have H2 := Lib.hid (And.intro (H1.out.1.gr0 g2) (And.intro (H1.out.2.1.gr0 g2) (H1.out.2.2.trans g2)))
      clear g2 c0 c1 c2 c3 c4 H1 HS
      have c1 := H2.out.1.cell 1
      have r0 := H2.out.2.1.cell 0
      have r1 := H2.out.2.1.cell 1
      have r2 := H2.out.2.1.cell 2
      have f0 := H2.out.2.1.frozen 0
      have f1 := H2.out.2.1.frozen 1
      have f2 := H2.out.2.1.frozen 2
      go_wp2_with fail
      refine bodyPost_ret (v := .agg #[.int .i64 0, .int .i64 0, .int .i64 0]) (by simp [results, Tryz.results44, go_sem, *]) rfl ⟨?_, ?_⟩
      · unfold tbC freeC
        rw [HP.out]
        rfl
      · repeat (with_reducible first | exact H2.out.2.2 | refine Gr.setCell ?_ (.inr (by have := HCB.out; (try dsimp only); omega)) _)
end Go.Proofs.YtefmbchebobceaaGreat

/-
  Layer 10: pages at work on a calm device, no line bad: find, has, Len, Frame, Heat, Moved, Read, spot.
-/
namespace Go.Proofs.YtefmbchebobceaaGreat
open Go.RowKit
set_option linter.unusedVariables false

structure HtA where
  pb : Nat
  lb : Nat
  cl : Nat
  hb : Nat
  tb : Nat
def HtA.all (X : HtA) : List Nat := [X.pb, X.lb, X.hb, X.tb]
structure HtS where
  fr : Nat → Nat
  mv : Nat → Nat
  ht : Nat → Nat
  tk : Nat → Bool
def frmC (C : CfgZ) : Nat := cR C * cL C / 8
def keyT (S : HtS) (g : Nat) : Nat := S.mv g * 65536 + S.fr g
def htRow (X : HtA) (A : FlA) (C : CfgZ) (lim : Nat) : Array Value := #[.pointer (some ⟨A.fb, 0, none⟩), .int .i64 (pgC C : Int), .int .i64 (tbC C : Int), .int .i64 (freeC C), .int .i64 (lim : Int), .slice (some ⟨X.lb, 0, none⟩) (pgC C) X.cl, .slice (some ⟨X.hb, 0, none⟩) (pgC C) (pgC C), .slice (some ⟨X.tb, 0, none⟩) (frmC C) (frmC C)]
structure HtP (C : CfgZ) (S : HtS) : Prop where
  lt : ∀ g, g < pgC C → tbC C ≤ S.fr g ∧ S.fr g < frmC C
  inj : ∀ g g2, g < pgC C → g2 < pgC C → S.fr g = S.fr g2 → g = g2
  tk : ∀ q, q < frmC C → (S.tk q = true ↔ (q < tbC C ∨ ∃ g, g < pgC C ∧ S.fr g = q))
structure HtIs (w : World) (X : HtA) (A : FlA) (a : DevA) (C : CfgZ) (F : Nat → Nat → Nat) (V : FlV) (c : Nat → Nat) (N lim : Nat) (S : HtS) : Prop where
  fl : FLc C A a true F V c N w
  pos : 0 < pgC C
  head : Holds w X.pb (htRow X A C lim) 110
  pls : ∃ cur : Array Value, Holds w X.lb cur 114 ∧ ∀ g, g < pgC C → cur[g * 2]? = some (.int .i64 (S.fr g : Int)) ∧ cur[g * 2 + 1]? = some (.int .u32 (S.mv g : Int))
  hts : ∃ cur : Array Value, Holds w X.hb cur 3 ∧ ∀ g, g < pgC C → cur[g]? = some (.int .i64 (S.ht g : Int))
  tks : ∃ cur : Array Value, Holds w X.tb cur 4 ∧ ∀ q, q < frmC C → cur[q]? = some (.bool (S.tk q))
  na : ∀ x ∈ X.all, x ∉ A.all (cR C) ++ a.all
  nd : X.pb ≠ X.lb ∧ X.pb ≠ X.hb ∧ X.pb ≠ X.tb ∧ X.lb ≠ X.hb ∧ X.lb ≠ X.tb ∧ X.hb ≠ X.tb
  cap : pgC C ≤ X.cl
  inv : HtP C S
  tab : ∀ g, g < pgC C → F (g / 8) (g % 8) = guardN (keyT S g)
  mvb : ∀ g, g < pgC C → S.mv g ≤ N
  htb : ∀ g, g < pgC C → S.ht g ≤ lim
section
variable {C : CfgZ}
theorem pg_nums (hC : OkC C) (h : 0 < pgC C) : cR C * cL C = 8 * frmC C ∧ frmC C ≤ 2048 ∧ pgC C + tbC C + cR C ≤ frmC C ∧ 1 ≤ tbC C ∧ pgC C ≤ 64 * tbC C ∧ tbC C ≤ 32 := by
  have hs : ¬ sizeC C = 0 := by
    intro e
    unfold pgC at h
    rw [if_pos (.inl e)] at h
    omega
  have h8 : C.l % 8 = 0 := by
    refine Decidable.byContradiction fun e => ?_
    unfold pgC at h
    rw [if_pos (.inr e)] at h
    omega
  obtain ⟨H, q1, q2, q3, q4⟩ := rest_in hs h8
  obtain ⟨n1, n2, n3, n4, n5, n6, n7⟩ := hC.nums
  have e : cR C * cL C = 8 * H := by
    have : ((cR C * cL C : Nat) : Int) = ((8 * H : Nat) : Int) := by rw [Int.natCast_mul, n1, n2]; exact q1
    exact Int.ofNat.inj this
  have hf : frmC C = H := by unfold frmC; rw [e]; omega
  have hp : pgC C = pgN (restC C) (restC C) := by
    unfold pgC
    rw [if_neg (by rintro (e | e); exact hs e; exact e h8)]
  have hfit := pgN_fit (restC C) (restC C) (by rw [← hp]; exact h)
  rw [← hp, q4] at hfit
  have hR : C.r.toNat = cR C := rfl
  rw [hR] at hfit q3
  unfold tbC
  rw [hf]
  refine ⟨e, q2, by omega, by omega, by omega, by omega⟩
end
section
variable {w w' : World} {X : HtA} {A : FlA} {a : DevA} {C : CfgZ} {F : Nat → Nat → Nat} {V : FlV} {c : Nat → Nat} {N lim : Nat} {S : HtS}
theorem HtIs.gr {bs : List Nat} (h : HtIs w X A a C F V c N lim S) (k : Gr bs w w') (h1 : ∀ x ∈ X.all, x ∉ bs) (h2 : ∀ x ∈ A.all (cR C) ++ a.all, x ∉ bs) : HtIs w' X A a C F V c N lim S := by
  obtain ⟨c1, q1, q2⟩ := h.pls
  obtain ⟨c2, q3, q4⟩ := h.hts
  obtain ⟨c3, q5, q6⟩ := h.tks
  exact ⟨h.fl.gr k h2, h.pos, h.head.gr k (h1 _ (by simp [HtA.all])), ⟨c1, q1.gr k (h1 _ (by simp [HtA.all])), q2⟩, ⟨c2, q3.gr k (h1 _ (by simp [HtA.all])), q4⟩, ⟨c3, q5.gr k (h1 _ (by simp [HtA.all])), q6⟩, h.na, h.nd, h.cap, h.inv, h.tab, h.mvb, h.htb⟩
theorem HtIs.gr0 (h : HtIs w X A a C F V c N lim S) (k : Gr [] w w') : HtIs w' X A a C F V c N lim S := h.gr k (by simp) (by simp)
theorem HtIs.lt (h : HtIs w X A a C F V c N lim S) : ∀ x ∈ X.all ++ (A.all (cR C) ++ a.all), x < w.heap.size := by
  intro x hx
  obtain ⟨c1, q1, q2⟩ := h.pls
  obtain ⟨c2, q3, q4⟩ := h.hts
  obtain ⟨c3, q5, q6⟩ := h.tks
  rcases List.mem_append.1 hx with hx | hx
  · simp only [HtA.all, List.mem_cons, List.not_mem_nil, or_false] at hx
    rcases hx with rfl | rfl | rfl | rfl
    · exact h.head.lt
    · exact q1.lt
    · exact q3.lt
    · exact q5.lt
  · exact h.fl.fl.lt x hx
theorem HtIs.plAt (h : HtIs w X A a C F V c N lim S) {g : Nat} (hg : g < pgC C) : w.cell? ⟨X.lb, g * 2, none⟩ = some (.int .i64 (S.fr g : Int)) ∧ w.cell? ⟨X.lb, g * 2 + 1, none⟩ = some (.int .u32 (S.mv g : Int)) ∧ (∀ o, w.frozen? ⟨X.lb, o, none⟩ = false) := by
  obtain ⟨c1, q1, q2⟩ := h.pls
  exact ⟨(q1.cell _).trans (q2 g hg).1, (q1.cell _).trans (q2 g hg).2, fun o => q1.frozen o⟩
theorem HtIs.htAt (h : HtIs w X A a C F V c N lim S) {g : Nat} (hg : g < pgC C) : w.cell? ⟨X.hb, g, none⟩ = some (.int .i64 (S.ht g : Int)) ∧ w.frozen? ⟨X.hb, g, none⟩ = false := by
  obtain ⟨c1, q1, q2⟩ := h.hts
  exact ⟨(q1.cell _).trans (q2 g hg), q1.frozen _⟩
theorem HtIs.tkAt (h : HtIs w X A a C F V c N lim S) {q : Nat} (hq : q < frmC C) : w.cell? ⟨X.tb, q, none⟩ = some (.bool (S.tk q)) ∧ w.frozen? ⟨X.tb, q, none⟩ = false := by
  obtain ⟨c1, q1, q2⟩ := h.tks
  exact ⟨(q1.cell _).trans (q2 q hq), q1.frozen _⟩
theorem HtIs.hc (h : HtIs w X A a C F V c N lim S) : w.cell? ⟨X.pb, 0, none⟩ = some (.pointer (some ⟨A.fb, 0, none⟩)) ∧ w.cell? ⟨X.pb, 1, none⟩ = some (.int .i64 (pgC C : Int)) ∧ w.cell? ⟨X.pb, 2, none⟩ = some (.int .i64 (tbC C : Int)) ∧ w.cell? ⟨X.pb, 4, none⟩ = some (.int .i64 (lim : Int)) ∧ w.cell? ⟨X.pb, 5, none⟩ = some (.slice (some ⟨X.lb, 0, none⟩) (pgC C) X.cl) ∧ w.cell? ⟨X.pb, 6, none⟩ = some (.slice (some ⟨X.hb, 0, none⟩) (pgC C) (pgC C)) ∧ w.cell? ⟨X.pb, 7, none⟩ = some (.slice (some ⟨X.tb, 0, none⟩) (frmC C) (frmC C)) :=
  ⟨h.head.cell 0, h.head.cell 1, h.head.cell 2, h.head.cell 4, h.head.cell 5, h.head.cell 6, h.head.cell 7⟩
theorem hlen_any (h : HtIs w X A a C F V c N lim S) : Calls Tryz.prog 19 #[.pointer (some ⟨X.pb, 0, none⟩)] w fun e w' => e = .returned (.int .i64 (pgC C : Int)) ∧ w' = w := by
  have c1 := h.hc.2.1
  clear h
  go_enter Tryz.func19, Tryz.ntmps19
  go_wp2_with fail
  go_ret
  exact ⟨rfl, rfl⟩
theorem hhas_any (h : HtIs w X A a C F V c N lim S) (g : Int) : Calls Tryz.prog 76 #[.pointer (some ⟨X.pb, 0, none⟩), .int .i64 g] w fun e w' => e = .returned (.bool (decide (0 ≤ g ∧ g < (pgC C : Int)))) ∧ w' = w := by
  have HL := Lib.hid (hlen_any h)
  clear h
  obtain ⟨G, hG⟩ : ∃ G, G = pgC C := ⟨_, rfl⟩
  rw [← hG] at HL ⊢
  clear hG
  by_cases h0 : 0 ≤ g
  · by_cases h1 : g < (G : Int)
    · rw [decide_eq_true ⟨h0, h1⟩]
      go_enter Tryz.func76, Tryz.ntmps76
      go_wp2_with fail
      refine HL.out.mono ?_
      rintro e w2 ⟨rfl, rfl⟩
      go_wp2_with fail
      go_ret
      exact ⟨rfl, rfl⟩
    · rw [decide_eq_false (fun q => h1 q.2)]
      go_enter Tryz.func76, Tryz.ntmps76
      go_wp2_with fail
      refine HL.out.mono ?_
      rintro e w2 ⟨rfl, rfl⟩
      go_wp2_with fail
      go_ret
      exact ⟨by simp [h1] <;> omega, rfl⟩
  · rw [decide_eq_false (fun q => h0 q.1)]
    go_enter Tryz.func76, Tryz.ntmps76
    go_wp2_with fail
    go_ret
    exact ⟨rfl, rfl⟩
theorem hfind_in (h : HtIs w X A a C F V c N lim S) (g k : Nat) (hg : g < pgC C) (hk : k < 8) : Calls Tryz.prog 65 #[.pointer (some ⟨X.pb, 0, none⟩), .int .i64 (g : Int), .int .i64 (k : Int)] w fun e w' => e = .returned (.tuple #[.int .i64 ((8 * S.fr g + k : Nat) : Int), .int .i64 0]) ∧ w' = w := by
  have HH := Lib.hid (hhas_any h (g : Int))
  rw [decide_eq_true (by omega)] at HH
  have c5 := h.hc.2.2.2.2.1
  obtain ⟨l0, l1, l2⟩ := h.plAt hg
  have n := pg_nums h.fl.ok h.pos
  have hf := (h.inv.lt g hg).2
  have hcap := h.cap
  clear h
  obtain ⟨f, hf0⟩ : ∃ f, f = S.fr g := ⟨_, rfl⟩
  obtain ⟨m, hm⟩ : ∃ m, m = S.mv g := ⟨_, rfl⟩
  obtain ⟨f8, hf8⟩ : ∃ x, x = 8 * f := ⟨_, rfl⟩
  obtain ⟨fk, hfk⟩ : ∃ x, x = 8 * f + k := ⟨_, rfl⟩
  obtain ⟨G, hG⟩ : ∃ G, G = pgC C := ⟨_, rfl⟩
  rw [← hf0] at l0 hf ⊢
  rw [← hm] at l1
  rw [← hfk]
  rw [← hG] at c5 hg hcap
  have w1 : IntKind.i64.wrap ((f : Int) * 8) = (f8 : Int) := by rw [show (f : Int) * 8 = (f8 : Int) by omega]; exact IntWalk.i64_in _ (by omega)
  have w2 : IntKind.i64.wrap ((f8 : Int) + (k : Int)) = (fk : Int) := by rw [show (f8 : Int) + (k : Int) = (fk : Int) by omega]; exact IntWalk.i64_in _ (by omega)
  have k1 : ¬ (k : Int) < 0 := by omega
  have k2 : ¬ (8 : Int) ≤ (k : Int) := by omega
  have k3 : decide (8 ≤ k) = false := decide_eq_false (by omega)
  have g1 : (g : Int) < (G : Int) := by omega
  have g0 : (0 : Int) ≤ (g : Int) := by omega
  clear hf0 hm hf8 hfk hG n hf
  go_enter Tryz.func65, Tryz.ntmps65
  go_wp2_with fail
  refine HH.out.mono ?_
  rintro e w2 ⟨rfl, rfl⟩
  go_wp2_with fail
  go_ret2
  exact ⟨rfl, rfl⟩
theorem hread_in (h : HtIs w X A a C F V c N lim S) (g k : Nat) (hg : g < pgC C) (hk : k < 8) : Calls Tryz.prog 24 #[.pointer (some ⟨X.pb, 0, none⟩), .int .i64 (g : Int), .int .i64 (k : Int)] w fun e w' => e = .returned (.tuple #[.string (lnF F (8 * S.fr g + k)), .int .i64 0]) ∧ Gr [] w w' := by
  have HF := Lib.hid (hfind_in h g k hg hk)
  have c0 := h.hc.1
  have n := pg_nums h.fl.ok h.pos
  have hf := (h.inv.lt g hg).2
  have HR := Lib.hid (h.fl.fl.read (8 * S.fr g + k) (by omega))
  generalize 8 * S.fr g + k = l at *
  generalize lnF F l = T at *
  clear h n hf
  go_enter Tryz.func24, Tryz.ntmps24
  go_wp2_with fail
  refine HF.out.mono ?_
  rintro e w2 ⟨rfl, rfl⟩
  go_wp2_with fail
  refine HR.out.mono ?_
  rintro e w3 ⟨rfl, g3⟩
  have HG := Lib.hid g3
  clear g3
  go_wp2_with fail
  go_ret2
  exact ⟨rfl, HG.out⟩
theorem hspot_any (h : HtIs w X A a C F V c N lim S) (q : Nat) (hq : q < frmC C) : Calls Tryz.prog 165 #[.pointer (some ⟨X.pb, 0, none⟩), .int .i64 (q : Int)] w fun e w' => e = .returned (.agg #[.int .i64 (q : Int), .int .u32 (V.J (qL C (8 * q)) : Int)]) ∧ Gr [] w w' := by
  have n := pg_nums h.fl.ok h.pos
  have hl : 8 * q < cR C * cL C := by omega
  have HR := Lib.hid (fun W (g : Gr [] w W) => (h.gr0 g).fl.fl.region (8 * q) hl)
  have HM := Lib.hid (fun W (g : Gr [] w W) => (h.gr0 g).fl.fl.moves (qL C (8 * q)) (qi_in h.fl.ok hl).1)
  have HC := Lib.hid (fun W (g : Gr [] w W) => (h.gr0 g).hc.1)
  obtain ⟨q8, h8⟩ : ∃ x, x = 8 * q := ⟨_, rfl⟩
  rw [← h8] at HR HM ⊢
  have w1 : IntKind.i64.wrap ((q : Int) * 8) = (q8 : Int) := by rw [show (q : Int) * 8 = (q8 : Int) by omega]; exact IntWalk.i64_in _ (by omega)
  obtain ⟨rg, hrg⟩ : ∃ x, x = qL C q8 := ⟨_, rfl⟩
  rw [← hrg] at HR HM ⊢
  obtain ⟨J, hJ⟩ : ∃ x, x = V.J rg := ⟨_, rfl⟩
  rw [← hJ] at HM ⊢
  have g0 := (Gr.refl [] w).alloc (Obj.cells #[.int .i64 0, .int .u32 0] 242)
  have hh := Holds.new w #[.int .i64 0, .int .u32 0] 242
  have H1 := Lib.hid (And.intro g0 hh)
  have c0 := HC.out _ g0
  clear h8 hrg hJ n hl g0 hh h
  go_enter Tryz.func165, Tryz.ntmps165
  go_upto_region 1 with fail
  generalize w.alloc (Obj.cells #[.int .i64 0, .int .u32 0] 242) = w1 at *
  obtain ⟨sb, hsb⟩ : ∃ x, x = w.heap.size := ⟨_, rfl⟩
  rw [← hsb] at H1 ⊢
  have HSB := Lib.hid hsb
  clear hsb
  go_wp2_with fail
  refine (HR.out _ H1.out.1).mono ?_
  rintro e w2 ⟨rfl, g2⟩
  have H2 := Lib.hid (And.intro (H1.out.1.trans g2) (H1.out.2.gr0 g2))
  clear g2 c0
  have c0 := HC.out _ H2.out.1
  go_wp2_with fail
  refine (HM.out _ H2.out.1).mono ?_
  rintro e w3 ⟨rfl, g3⟩
  have H3 := Lib.hid (And.intro (H2.out.1.trans g3) (H2.out.2.gr0 g3))
  clear g3 c0
  have s0 := H3.out.2.cell 0
  have s1 := H3.out.2.cell 1
  have f0 := H3.out.2.frozen 0
  have f1 := H3.out.2.frozen 1
  go_wp2_with fail
  refine bodyPost_ret (v := .agg #[.int .i64 (q : Int), .int .u32 (J : Int)]) (by simp [results, Tryz.results165, go_sem, *]) rfl ⟨rfl, ?_⟩
  repeat (with_reducible first | exact H3.out.1 | refine Gr.setCell ?_ (.inr (by have := HSB.out; (try dsimp only); omega)) _)
end
end Go.Proofs.YtefmbchebobceaaGreat

/-
  Layer 10: the first free frame of those whose region moved on least.
-/
namespace Go.Proofs.YtefmbchebobceaaGreat
open Go.RowKit
set_option linter.unusedVariables false

theorem infoSpot10 : (Tryz.prog.info? 242).map (fun i => (i.zero, i.size, i.bytes)) = some (some (.agg #[.int .i64 0, .int .u32 0]), 2, 16) := by kernel_rfl
theorem one_spot10 (x y : Int) : ∀ u ∈ [Value.int .i64 x, .int .u32 y], u.oneCell' = true := by simp [Value.oneCell']
def freeL (tk : Nat → Bool) : Nat → List Nat
  | 0 => []
  | q + 1 => if tk q then freeL tk q else freeL tk q ++ [q]
theorem freeL_mem {tk : Nat → Bool} : ∀ {n q : Nat}, q ∈ freeL tk n ↔ q < n ∧ tk q = false
  | 0, q => by simp [freeL]
  | n + 1, q => by
    unfold freeL
    by_cases h : tk n = true
    · rw [if_pos h, freeL_mem]
      constructor
      · rintro ⟨a, b⟩; exact ⟨by omega, b⟩
      · rintro ⟨a, b⟩
        refine ⟨?_, b⟩
        have : q ≠ n := fun e => by rw [e, h] at b; exact absurd b (by simp)
        omega
    · rw [if_neg h, List.mem_append, freeL_mem, List.mem_singleton]
      constructor
      · rintro (⟨a, b⟩ | rfl)
        · exact ⟨by omega, b⟩
        · exact ⟨by omega, by simpa using h⟩
      · rintro ⟨a, b⟩
        by_cases e : q = n
        · exact .inr e
        · exact .inl ⟨by omega, b⟩
theorem freeL_len {tk : Nat → Bool} : ∀ n, (freeL tk n).length ≤ n
  | 0 => Nat.le_refl _
  | n + 1 => by
    have := freeL_len (tk := tk) n
    unfold freeL
    split
    · omega
    · rw [List.length_append]; simp; omega
def keyQ10 (C : CfgZ) (J : Nat → Nat) (q : Nat) : Nat := J (qL C (8 * q)) * 65536 + q
def spotL (C : CfgZ) (J : Nat → Nat) (l : List Nat) : List Value := l.flatMap fun (q : Nat) => [Value.int .i64 ((q : Nat) : Int), Value.int .u32 ((J (qL C (8 * q)) : Nat) : Int)]
theorem spotL_snoc (C : CfgZ) (J : Nat → Nat) (l : List Nat) (q : Nat) : spotL C J (l ++ [q]) = spotL C J l ++ [.int .i64 (q : Int), .int .u32 (J (qL C (8 * q)) : Int)] := by
  unfold spotL
  rw [List.flatMap_append]
  simp
theorem spotL_get (C : CfgZ) (J : Nat → Nat) : ∀ (l : List Nat) (i : Nat) (q : Nat), l[i]? = some q → (spotL C J l)[i * 2]? = some (.int .i64 (q : Int)) ∧ (spotL C J l)[i * 2 + 1]? = some (.int .u32 (J (qL C (8 * q)) : Int))
  | [], i, q, h => by simp at h
  | x :: l, 0, q, h => by
    have : x = q := by simpa using h
    subst this
    exact ⟨rfl, rfl⟩
  | x :: l, i + 1, q, h => by
    have := spotL_get C J l i q (by simpa using h)
    have e : spotL C J (x :: l) = .int .i64 (x : Int) :: .int .u32 (J (qL C (8 * x)) : Int) :: spotL C J l := rfl
    rw [e, show (i + 1) * 2 = i * 2 + 2 by omega, show i * 2 + 2 + 1 = i * 2 + 1 + 2 by omega]
    exact this
structure SpI (C : CfgZ) (J : Nat → Nat) (w0 : World) (sb : Nat) (l : List Nat) (n : Nat) (v : Value) (wr : World) : Prop where
  head : Holds wr sb #[v] 285
  own : wr.ownsRow (sb + 1) 242 2 v n (spotL C J l)
  len : n = l.length
  gr : Gr [] w0 wr
  fl : w0.heap.size ≤ sb
section
variable {C : CfgZ} {J : Nat → Nat} {w0 w1 w2 w6 wr w' : World} {sb n g cp : Nat} {l : List Nat} {v : Value} {q : Nat}
theorem SpI.gr0 (h : SpI C J w0 sb l n v wr) (k : Gr [] wr w') : SpI C J w0 sb l n v w' := ⟨h.head.gr0 k, own_gr0 h.own k, h.len, h.gr.trans k, h.fl⟩
theorem SpI.snoc (h : SpI C J w0 sb l n v w1) (g1 : Gr [] w1 w2) (hown : w6.ownsRow (sb + 1) 242 2 (.slice (some ⟨g, 0, none⟩) (n + 1) cp) (n + 1) (spotL C J l ++ [.int .i64 (q : Int), .int .u32 (J (qL C (8 * q)) : Int)]))
    (hg : w2.grownBy w6 v.ownBlock) : SpI C J w0 sb (l ++ [q]) (n + 1) (.slice (some ⟨g, 0, none⟩) (n + 1) cp) (w6.setCell ⟨sb, 0, none⟩ (.slice (some ⟨g, 0, none⟩) (n + 1) cp)) := by
  have hlr : ∀ b, v.ownBlock = some b → sb + 1 ≤ b ∧ b < w1.heap.size := fun b e => h.own.lt b e
  have hG : Gr (v.ownBlock.toList ++ [sb]) w1 (w6.setCell ⟨sb, 0, none⟩ (.slice (some ⟨g, 0, none⟩) (n + 1) cp)) := (((g1.of0 (cs := v.ownBlock.toList ++ [sb])).trans ((gr_grown9 hg).mono fun b hb => List.mem_append.2 (.inl hb)))).setCell (p := ⟨sb, 0, none⟩) (.inl (by simp)) _
  refine ⟨?_, ?_, by rw [List.length_append, ← h.len]; rfl, ?_, h.fl⟩
  · have hd : Holds w6 sb #[v] 285 := (h.head.gr0 g1).gr (gr_grown9 hg) (fun e => by have := (hlr sb (by simpa using e)).1; omega)
    exact hd.set 0 (.slice (some ⟨g, 0, none⟩) (n + 1) cp)
  · rw [spotL_snoc]
    exact own_gr hown ((Gr.refl [sb] w6).setCell (p := ⟨sb, 0, none⟩) (.inl (by simp)) _) (fun b hb e => by have := (hown.lt b hb).1; simp at e; omega)
  · refine h.gr.nextN hG fun x hx => .inr ?_
    have h2 := h.fl
    rcases List.mem_append.1 hx with hb | hb
    · have := (hlr x (by simpa using hb)).1; omega
    · have : x = sb := by simpa using hb
      omega
theorem SpI.sp (h : SpI C J w0 sb l n v wr) (hn : 1 ≤ n) (h7 : n ≤ 70000) (hq : ∀ q ∈ l, q < 65536) : ∃ lb cap K, SpIs wr sb lb n cap K ∧ sb + 1 ≤ lb ∧ ∀ x, ImgK K n x ↔ ∃ q ∈ l, keyQ10 C J q = x := by
  rcases h.own.2 with ⟨_, hz⟩ | ⟨gr, cr, curr, hvr, hgr, hhr, x1, x2, hsr, htr⟩
  · omega
  have hhd := h.head
  rw [hvr] at hhd
  have hK : ∀ i, i < n → ∃ q, l[i]? = some q := fun i hi => ⟨l[i]'(by rw [← h.len]; exact hi), List.getElem?_eq_getElem _⟩
  refine ⟨gr, cr, fun i => keyQ10 C J (l[i]?.getD 0), ⟨hhd, ⟨curr, hhr, fun i hi => ?_⟩, by omega, by omega, h7⟩, hgr, fun x => ?_⟩
  · obtain ⟨q, e⟩ := hK i hi
    obtain ⟨s1, s2⟩ := spotL_get C J l i q e
    have hq6 := hq q (List.mem_of_getElem? e)
    rw [← htr] at s1 s2
    rw [List.getElem?_take, if_pos (by omega), Array.getElem?_toList] at s1 s2
    rw [e]
    show curr[i * 2]? = some (frV (keyQ10 C J q)) ∧ curr[i * 2 + 1]? = some (mvV (keyQ10 C J q))
    unfold frV mvV keyQ10
    rw [show (J (qL C (8 * q)) * 65536 + q) % 65536 = q by omega, show (J (qL C (8 * q)) * 65536 + q) / 65536 = J (qL C (8 * q)) by omega]
    exact ⟨s1, s2⟩
  · constructor
    · rintro ⟨i, hi, rfl⟩
      obtain ⟨q, e⟩ := hK i hi
      exact ⟨q, List.mem_of_getElem? e, by show _ = keyQ10 C J (l[i]?.getD 0); rw [e]; rfl⟩
    · rintro ⟨q, hm, rfl⟩
      obtain ⟨i, hi, e⟩ := List.getElem_of_mem hm
      refine ⟨i, by rw [h.len]; exact hi, ?_⟩
      show keyQ10 C J (l[i]?.getD 0) = keyQ10 C J q
      rw [List.getElem?_eq_getElem hi, e]
      rfl
end
end Go.Proofs.YtefmbchebobceaaGreat
