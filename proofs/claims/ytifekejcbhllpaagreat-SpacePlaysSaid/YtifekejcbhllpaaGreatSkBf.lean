/-
  SkBf: HtD, HtE, HtF, HtG, HtH, HtI, HtJ, HtK, HtL.
-/
import Derived.Test.YtifekejcbhllpaaGreatSkBe
import Derived.Test.YtifekejcbhllpaaGreatSkAm
import Derived.Test.YtifekejcbhllpaaGreatSkAo
import Derived.Deep.AppendLies
import Derived.Deep.RegionLaw
import Derived.BigRegion

set_option linter.unusedVariables false

/-
  Layer 10: how many pages a config has; a place's word.
-/
namespace Go.Proofs.YtifekejcbhllpaaGreat
open Go.RowKit
set_option linter.unusedVariables false

def restC (C : CfgZ) : Nat := (C.r * C.l / 8 - C.r).toNat
/-- How many pages. -/
def pgC (C : CfgZ) : Nat := if sizeC C = 0 ∨ ¬ C.l % 8 = 0 then 0 else pgN (restC C) (restC C)
def tbC (C : CfgZ) : Nat := (pgC C + 63) / 64
def freeC (C : CfgZ) : Int := if pgC C = 0 then 0 else C.r
theorem sizeC_in {C : CfgZ} (h : ¬ sizeC C = 0) : 1 ≤ C.r ∧ C.r ≤ 16 ∧ 1 ≤ C.l ∧ C.l ≤ 1024 := by
  unfold sizeC at h
  split at h
  · rename_i q
    exact ⟨q.1, q.2.1, q.2.2.1, q.2.2.2.1⟩
  · exact absurd rfl h
theorem rest_in {C : CfgZ} (h : ¬ sizeC C = 0) (h8 : C.l % 8 = 0) : ∃ H : Nat, C.r * C.l = ((8 * H : Nat) : Int) ∧ H ≤ 2048 ∧ C.r.toNat ≤ H ∧ restC C = H - C.r.toNat := by
  obtain ⟨a1, a2, a3, a4⟩ := sizeC_in h
  obtain ⟨L, hL⟩ : ∃ L : Nat, C.l = 8 * (L : Int) := ⟨(C.l / 8).toNat, by omega⟩
  obtain ⟨R, hR⟩ : ∃ R : Nat, C.r = (R : Int) := ⟨C.r.toNat, by omega⟩
  have hRL : R * L ≤ 16 * 128 := Nat.mul_le_mul (by omega) (by omega)
  have hRL2 : R * 1 ≤ R * L := Nat.mul_le_mul_left R (by omega)
  have e : C.r * C.l = ((8 * (R * L) : Nat) : Int) := by
    rw [hL, hR, Int.natCast_mul, Int.natCast_mul, ← Int.mul_assoc, Int.mul_comm (R : Int) 8, Int.mul_assoc]
    rfl
  refine ⟨R * L, e, by omega, by omega, ?_⟩
  unfold restC
  rw [e]
  omega
set_option maxRecDepth 100000 in
set_option maxHeartbeats 8000000 in
theorem plan_any (C : CfgZ) (hC : wfC C) (w : World) : Calls Tryz.prog 53 #[cfgV C] w fun e w' => e = .returned (.agg #[.int .i64 (pgC C : Int), .int .i64 (tbC C : Int), .int .i64 (freeC C)]) ∧ Gr [] w w' := by
  have HS := Lib.hid (fun W => show Calls Tryz.prog 27 #[.agg #[.int .i64 C.r, .int .i64 C.l, .int .i64 C.s, .int .i64 C.psi, .int .u64 (C.key : Int)]] W _ from csize_any C hC W)
  have hb := sizeC_b C
  have hh := Holds.new w (cfgRow C) 64
  have ga := (Gr.refl [] w).alloc (Obj.cells (cfgRow C) 64)
  have gb := ga.alloc (Obj.cells #[.int .i64 0, .int .i64 0, .int .i64 0] 99)
  have hr := Holds.new (w.alloc (Obj.cells (cfgRow C) 64)) #[.int .i64 0, .int .i64 0, .int .i64 0] 99
  have h1 := hh.alloc (Obj.cells #[.int .i64 0, .int .i64 0, .int .i64 0] 99)
  have hs : (w.alloc (Obj.cells (cfgRow C) 64)).heap.size = w.heap.size + 1 := World.size_alloc _ _
  rw [hs] at hr
  have H1 := Lib.hid (And.intro h1 (And.intro hr gb))
  unfold cfgRow at H1
  unfold cfgV
  clear hh ga gb hr h1 hs
  obtain ⟨S, hS⟩ : ∃ S, S = sizeC C := ⟨_, rfl⟩
  rw [← hS] at HS hb
  go_enter Tryz.func53, Tryz.ntmps53
  go_upto_region 1 with fail
  generalize ((w.alloc (Obj.cells #[.int .i64 C.r, .int .i64 C.l, .int .i64 C.s, .int .i64 C.psi, .int .u64 (C.key : Int)] 64)).alloc (Obj.cells #[.int .i64 0, .int .i64 0, .int .i64 0] 99)) = w1 at *
  obtain ⟨cb, hcb⟩ : ∃ cb, cb = w.heap.size := ⟨_, rfl⟩
  rw [← hcb] at H1 ⊢
  have HCB := Lib.hid hcb
  clear hcb
  have c0 := H1.out.1.cell 0
  have c1 := H1.out.1.cell 1
  have c2 := H1.out.1.cell 2
  have c3 := H1.out.1.cell 3
  have c4 := H1.out.1.cell 4
  have RES : ∀ (x y z : Int) (W : World) (g : Gr [] w W) (r : Holds W (cb + 1) #[.int .i64 x, .int .i64 y, .int .i64 z] 99), True := fun _ _ _ _ _ _ => trivial
  clear RES
  by_cases h0 : S = 0
  · subst h0
    have hp : pgC C = 0 := by unfold pgC; rw [if_pos (.inl hS.symm)]
    have HP := Lib.hid hp
    clear hp hS hb
    go_wp2_with fail
    refine (HS.out _).mono ?_
    rintro e w2 ⟨rfl, g2⟩
    have H2 := Lib.hid (And.intro (H1.out.2.1.gr0 g2) (H1.out.2.2.trans g2))
    clear g2 c0 c1 c2 c3 c4 H1 HS
    have r0 := H2.out.1.cell 0
    have r1 := H2.out.1.cell 1
    have r2 := H2.out.1.cell 2
    have f0 := H2.out.1.frozen 0
    have f1 := H2.out.1.frozen 1
    have f2 := H2.out.1.frozen 2
    go_wp2_with fail
    refine bodyPost_ret (v := .agg #[.int .i64 0, .int .i64 0, .int .i64 0]) (by simp [results, Tryz.results53, go_sem, *]) rfl ⟨?_, ?_⟩
    · unfold tbC freeC
      rw [HP.out]
      rfl
    · repeat (with_reducible first | exact H2.out.2 | refine Gr.setCell ?_ (.inr (by have := HCB.out; (try dsimp only); omega)) _)
  · have h0b : (S == 0) = false := by simpa using h0
    have hin := sizeC_in (C := C) (by rw [← hS]; exact h0)
    have hl0 : 0 ≤ C.l := by omega
    have hl8 : C.l.tmod 8 = C.l % 8 := Int.tmod_eq_emod_of_nonneg hl0
    have hw8 : IntKind.i64.wrap (C.l % 8) = C.l % 8 := IntWalk.i64_in _ (by omega)
    by_cases h8 : C.l % 8 = 0
    · obtain ⟨H, q1, q2, q3, q4⟩ := rest_in (C := C) (by rw [← hS]; exact h0) h8
      have hpg : pgC C = pgN (restC C) (restC C) := by
        unfold pgC
        rw [if_neg]
        rintro (e | e)
        · exact h0 (by rw [hS]; exact e)
        · exact e h8
      obtain ⟨R, hR⟩ : ∃ R : Nat, C.r = (R : Int) := ⟨C.r.toNat, by omega⟩
      obtain ⟨N8, hN8⟩ : ∃ N8, N8 = 8 * H := ⟨_, rfl⟩
      obtain ⟨R0, hR0⟩ : ∃ R0, R0 = restC C := ⟨_, rfl⟩
      rw [← hN8] at q1
      rw [← hR0] at hpg q4
      have m1 : IntKind.i64.wrap (C.r * C.l) = (N8 : Int) := by rw [q1]; exact IntWalk.i64_in _ (by omega)
      have m2 : (N8 : Int).tdiv 8 = (H : Int) := by rw [Int.tdiv_eq_ediv_of_nonneg (by omega)]; omega
      have m3 : IntKind.i64.wrap (H : Int) = (H : Int) := IntWalk.i64_in _ (by omega)
      have m4 : IntKind.i64.wrap ((H : Int) - C.r) = (R0 : Int) := by rw [show (H : Int) - C.r = (R0 : Int) by omega]; exact IntWalk.i64_in _ (by omega)
      have HP := Lib.hid (And.intro hpg (And.intro hR (And.intro (show 1 ≤ R ∧ R ≤ 16 by omega) (show R0 ≤ 2048 by omega))))
      clear q1 q2 q3 q4 hN8 hR0 hpg hR hS hb h0 hin
      rw [h8] at hl8 hw8
      clear h8
      go_wp2_with fail
      refine (HS.out _).mono ?_
      rintro e w2 ⟨rfl, g2⟩
      have H2 := Lib.hid (And.intro (H1.out.1.gr0 g2) (And.intro (H1.out.2.1.gr0 g2) (H1.out.2.2.trans g2)))
      clear g2 c0 c1 c2 c3 c4 H1 HS
      have c0 := H2.out.1.cell 0
      have c1 := H2.out.1.cell 1
      go_wp2_with fail
      clear m1 m2 m3 m4 c0 c1 hl8 hw8 hl0 h0b
      go_loopw [4] (fun gv wr => ∃ g : Nat, gv = .int .i64 (g : Int) ∧ g ≤ R0 ∧ pgC C = pgN R0 g ∧ Holds wr cb #[.int .i64 C.r, .int .i64 C.l, .int .i64 C.s, .int .i64 C.psi, .int .u64 (C.key : Int)] 64 ∧ Holds wr (cb + 1) #[.int .i64 0, .int .i64 0, .int .i64 0] 99 ∧ Gr [] w wr) (fun gv _ => (intOf gv).toNat)
      case atStart => exact ⟨R0, rfl, Nat.le_refl _, HP.out.1, H2.out.1, H2.out.2.1, H2.out.2.2⟩
      case round =>
        clear H2
        obtain ⟨g, rfl, a1, a2, a3, a4, a5⟩ := hrel
        have HH := Lib.hid (And.intro a2 (And.intro a3 (And.intro a4 a5)))
        have hR0 := HP.out.2.2.2
        clear a2 a3 a4 a5
        have c0 := HH.out.2.1.cell 0
        have r0 := HH.out.2.2.1.cell 0
        have r1 := HH.out.2.2.1.cell 1
        have r2 := HH.out.2.2.1.cell 2
        have f0 := HH.out.2.2.1.frozen 0
        have f1 := HH.out.2.2.1.frozen 1
        have f2 := HH.out.2.2.1.frozen 2
        by_cases hg : g = 0
        · subst hg
          go_wp2_with fail
          refine bodyPost_ret (v := .agg #[.int .i64 0, .int .i64 0, .int .i64 0]) (by simp [results, Tryz.results53, go_sem, *]) rfl ⟨?_, ?_⟩
          · have e : pgC C = 0 := HH.out.1
            unfold tbC freeC
            rw [e]
            rfl
          · repeat (with_reducible first | exact HH.out.2.2.2 | refine Gr.setCell ?_ (.inr (by have := HCB.out; (try dsimp only); omega)) _)
        · obtain ⟨p, hp⟩ : ∃ p, g = p + 1 := ⟨g - 1, by omega⟩
          have hg1 : (1 : Int) ≤ (g : Int) := by omega
          obtain ⟨g64, h64⟩ : ∃ x, x = g + 64 := ⟨_, rfl⟩
          obtain ⟨g63, h63⟩ : ∃ x, x = g + 63 := ⟨_, rfl⟩
          obtain ⟨t, ht⟩ : ∃ x, x = (g + 63) / 64 := ⟨_, rfl⟩
          obtain ⟨gt, hgt⟩ : ∃ x, x = g + t := ⟨_, rfl⟩
          have w1 : IntKind.i64.wrap ((g : Int) + 64) = (g64 : Int) := by rw [show (g : Int) + 64 = (g64 : Int) by omega]; exact IntWalk.i64_in _ (by omega)
          have w2' : IntKind.i64.wrap ((g64 : Int) - 1) = (g63 : Int) := by rw [show (g64 : Int) - 1 = (g63 : Int) by omega]; exact IntWalk.i64_in _ (by omega)
          have w3 : (g63 : Int).tdiv 64 = (t : Int) := by rw [Int.tdiv_eq_ediv_of_nonneg (by omega)]; omega
          have w4 : IntKind.i64.wrap (t : Int) = (t : Int) := IntWalk.i64_in _ (by omega)
          have w5 : IntKind.i64.wrap ((g : Int) + (t : Int)) = (gt : Int) := by rw [show (g : Int) + (t : Int) = (gt : Int) by omega]; exact IntWalk.i64_in _ (by omega)
          have w6 : IntKind.i64.wrap ((g : Int) - 1) = (p : Int) := by rw [show (g : Int) - 1 = (p : Int) by omega]; exact IntWalk.i64_in _ (by omega)
          have HG := Lib.hid (And.intro hp (And.intro ht hgt))
          clear hp ht hgt h63 h64 hg
          by_cases hf : gt ≤ R0
          · have hf1 : (gt : Int) ≤ (R0 : Int) := by omega
            have hpg : pgC C = g := by
              obtain ⟨e1, e2, e3⟩ := HG.out
              rw [HH.out.1, e1, pgN, if_pos]
              have : (p + 64) / 64 = (g + 63) / 64 := by congr 1; omega
              omega
            have HF := Lib.hid hpg
            clear hpg
            go_wp2_with fail
            refine bodyPost_ret (v := .agg #[.int .i64 (g : Int), .int .i64 (t : Int), .int .i64 C.r]) (by simp [results, Tryz.results53, go_sem, *]) rfl ⟨?_, ?_⟩
            · obtain ⟨e1, e2, e3⟩ := HG.out
              unfold tbC freeC
              rw [HF.out, if_neg (by omega), ← e2]
            · repeat (with_reducible first | exact HH.out.2.2.2 | refine Gr.setCell ?_ (.inr (by have := HCB.out; (try dsimp only); omega)) _)
          · have hf1 : ¬ (gt : Int) ≤ (R0 : Int) := by omega
            have hpg : pgC C = pgN R0 p := by
              obtain ⟨e1, e2, e3⟩ := HG.out
              rw [HH.out.1, e1, pgN, if_neg]
              have : (p + 64) / 64 = (g + 63) / 64 := by congr 1; omega
              omega
            have HF := Lib.hid (And.intro hpg (show p ≤ R0 ∧ p < g by have := HG.out.1; omega))
            clear hpg
            go_wp2_with fail
            go_roundw
            case rel => exact ⟨p, rfl, HF.out.2.1, HF.out.1, HH.out.2.1, HH.out.2.2.1, HH.out.2.2.2⟩
            case measure => have := HF.out; simp [intOf]; omega
    · have hp : pgC C = 0 := by unfold pgC; rw [if_pos (.inr h8)]
      have HP := Lib.hid hp
      have h8b : (C.l % 8 != 0) = true := by simpa using h8
      obtain ⟨l8, hl⟩ : ∃ l8, l8 = C.l % 8 := ⟨_, rfl⟩
      rw [← hl] at hl8 hw8 h8b h8
      clear hp hS hb h0 hl hin
      go_wp2_with fail
      refine (HS.out _).mono ?_
      rintro e w2 ⟨rfl, g2⟩
      have H2 := Lib.hid (And.intro (H1.out.1.gr0 g2) (And.intro (H1.out.2.1.gr0 g2) (H1.out.2.2.trans g2)))
      clear g2 c0 c1 c2 c3 c4 H1 HS
      have c1 := H2.out.1.cell 1
      have r0 := H2.out.2.1.cell 0
      have r1 := H2.out.2.1.cell 1
      have r2 := H2.out.2.1.cell 2
      have f0 := H2.out.2.1.frozen 0
      have f1 := H2.out.2.1.frozen 1
      have f2 := H2.out.2.1.frozen 2
      go_wp2_with fail
      refine bodyPost_ret (v := .agg #[.int .i64 0, .int .i64 0, .int .i64 0]) (by simp [results, Tryz.results53, go_sem, *]) rfl ⟨?_, ?_⟩
      · unfold tbC freeC
        rw [HP.out]
        rfl
      · repeat (with_reducible first | exact H2.out.2.2 | refine Gr.setCell ?_ (.inr (by have := HCB.out; (try dsimp only); omega)) _)
end Go.Proofs.YtifekejcbhllpaaGreat

/-
  Layer 10: pages at work on a calm device, no line bad: find, has, Len, Frame, Heat, Moved, Read, spot.
-/
namespace Go.Proofs.YtifekejcbhllpaaGreat
open Go.RowKit
set_option linter.unusedVariables false

/-- Where pages are in memory. -/
structure HtA where
  pb : Nat
  lb : Nat
  cl : Nat
  hb : Nat
  tb : Nat
def HtA.all (X : HtA) : List Nat := [X.pb, X.lb, X.hb, X.tb]
/-- Each page's frame, how often it moved, its heat; which frames are taken. -/
structure HtS where
  fr : Nat → Nat
  mv : Nat → Nat
  ht : Nat → Nat
  tk : Nat → Bool
def frmC (C : CfgZ) : Nat := cR C * cL C / 8
def keyT (S : HtS) (g : Nat) : Nat := S.mv g * 65536 + S.fr g
def htRow (X : HtA) (A : FlA) (C : CfgZ) (lim : Nat) : Array Value := #[.pointer (some ⟨A.fb, 0, none⟩), .int .i64 (pgC C : Int), .int .i64 (tbC C : Int), .int .i64 (freeC C), .int .i64 (lim : Int), .slice (some ⟨X.lb, 0, none⟩) (pgC C) X.cl, .slice (some ⟨X.hb, 0, none⟩) (pgC C) (pgC C), .slice (some ⟨X.tb, 0, none⟩) (frmC C) (frmC C)]
/-- What holds of pages. -/
structure HtP (C : CfgZ) (S : HtS) : Prop where
  lt : ∀ g, g < pgC C → tbC C ≤ S.fr g ∧ S.fr g < frmC C
  inj : ∀ g g2, g < pgC C → g2 < pgC C → S.fr g = S.fr g2 → g = g2
  tk : ∀ q, q < frmC C → (S.tk q = true ↔ (q < tbC C ∨ ∃ g, g < pgC C ∧ S.fr g = q))
structure HtIs (w : World) (X : HtA) (A : FlA) (a : DevA) (C : CfgZ) (F : Nat → Nat → Nat) (V : FlV) (c : Nat → Nat) (N lim : Nat) (S : HtS) : Prop where
  fl : FLc C A a true F V c N w
  pos : 0 < pgC C
  head : Holds w X.pb (htRow X A C lim) 103
  pls : ∃ cur : Array Value, Holds w X.lb cur 97 ∧ ∀ g, g < pgC C → cur[g * 2]? = some (.int .i64 (S.fr g : Int)) ∧ cur[g * 2 + 1]? = some (.int .u32 (S.mv g : Int))
  hts : ∃ cur : Array Value, Holds w X.hb cur 3 ∧ ∀ g, g < pgC C → cur[g]? = some (.int .i64 (S.ht g : Int))
  tks : ∃ cur : Array Value, Holds w X.tb cur 4 ∧ ∀ q, q < frmC C → cur[q]? = some (.bool (S.tk q))
  na : ∀ x ∈ X.all, x ∉ A.all (cR C) ++ a.all
  nd : X.pb ≠ X.lb ∧ X.pb ≠ X.hb ∧ X.pb ≠ X.tb ∧ X.lb ≠ X.hb ∧ X.lb ≠ X.tb ∧ X.hb ≠ X.tb
  cap : pgC C ≤ X.cl
  inv : HtP C S
  tab : ∀ g, g < pgC C → F (g / 8) (g % 8) = guardN (keyT S g)
  mvb : ∀ g, g < pgC C → S.mv g ≤ N
  htb : ∀ g, g < pgC C → S.ht g ≤ lim
section
variable {C : CfgZ}
/-- The numbers of a config that has pages. -/
theorem pg_nums (hC : OkC C) (h : 0 < pgC C) : cR C * cL C = 8 * frmC C ∧ frmC C ≤ 2048 ∧ pgC C + tbC C + cR C ≤ frmC C ∧ 1 ≤ tbC C ∧ pgC C ≤ 64 * tbC C ∧ tbC C ≤ 32 := by
  have hs : ¬ sizeC C = 0 := by
    intro e
    unfold pgC at h
    rw [if_pos (.inl e)] at h
    omega
  have h8 : C.l % 8 = 0 := by
    refine Decidable.byContradiction fun e => ?_
    unfold pgC at h
    rw [if_pos (.inr e)] at h
    omega
  obtain ⟨H, q1, q2, q3, q4⟩ := rest_in hs h8
  obtain ⟨n1, n2, n3, n4, n5, n6, n7⟩ := hC.nums
  have e : cR C * cL C = 8 * H := by
    have : ((cR C * cL C : Nat) : Int) = ((8 * H : Nat) : Int) := by rw [Int.natCast_mul, n1, n2]; exact q1
    exact Int.ofNat.inj this
  have hf : frmC C = H := by unfold frmC; rw [e]; omega
  have hp : pgC C = pgN (restC C) (restC C) := by
    unfold pgC
    rw [if_neg (by rintro (e | e); exact hs e; exact e h8)]
  have hfit := pgN_fit (restC C) (restC C) (by rw [← hp]; exact h)
  rw [← hp, q4] at hfit
  have hR : C.r.toNat = cR C := rfl
  rw [hR] at hfit q3
  unfold tbC
  rw [hf]
  refine ⟨e, q2, by omega, by omega, by omega, by omega⟩
end
section
variable {w w' : World} {X : HtA} {A : FlA} {a : DevA} {C : CfgZ} {F : Nat → Nat → Nat} {V : FlV} {c : Nat → Nat} {N lim : Nat} {S : HtS}
theorem HtIs.lt (h : HtIs w X A a C F V c N lim S) : ∀ x ∈ X.all ++ (A.all (cR C) ++ a.all), x < w.heap.size := by
  intro x hx
  obtain ⟨c1, q1, q2⟩ := h.pls
  obtain ⟨c2, q3, q4⟩ := h.hts
  obtain ⟨c3, q5, q6⟩ := h.tks
  rcases List.mem_append.1 hx with hx | hx
  · simp only [HtA.all, List.mem_cons, List.not_mem_nil, or_false] at hx
    rcases hx with rfl | rfl | rfl | rfl
    · exact h.head.lt
    · exact q1.lt
    · exact q3.lt
    · exact q5.lt
  · exact h.fl.fl.lt x hx
end
end Go.Proofs.YtifekejcbhllpaaGreat

/-
  Layer 10: the first free frame of those whose region moved on least.
-/
namespace Go.Proofs.YtifekejcbhllpaaGreat
open Go.RowKit
set_option linter.unusedVariables false

theorem infoSpot10 : (Tryz.prog.info? 192).map (fun i => (i.zero, i.size, i.bytes)) = some (some (.agg #[.int .i64 0, .int .u32 0]), 2, 16) := by kernel_rfl
theorem one_spot10 (x y : Int) : ∀ u ∈ [Value.int .i64 x, .int .u32 y], u.oneCell' = true := by simp [Value.oneCell']
/-- The free frames below one. -/
def freeL (tk : Nat → Bool) : Nat → List Nat
  | 0 => []
  | q + 1 => if tk q then freeL tk q else freeL tk q ++ [q]
theorem freeL_mem {tk : Nat → Bool} : ∀ {n q : Nat}, q ∈ freeL tk n ↔ q < n ∧ tk q = false
  | 0, q => by simp [freeL]
  | n + 1, q => by
    unfold freeL
    by_cases h : tk n = true
    · rw [if_pos h, freeL_mem]
      constructor
      · rintro ⟨a, b⟩; exact ⟨by omega, b⟩
      · rintro ⟨a, b⟩
        refine ⟨?_, b⟩
        have : q ≠ n := fun e => by rw [e, h] at b; exact absurd b (by simp)
        omega
    · rw [if_neg h, List.mem_append, freeL_mem, List.mem_singleton]
      constructor
      · rintro (⟨a, b⟩ | rfl)
        · exact ⟨by omega, b⟩
        · exact ⟨by omega, by simpa using h⟩
      · rintro ⟨a, b⟩
        by_cases e : q = n
        · exact .inr e
        · exact .inl ⟨by omega, b⟩
theorem freeL_len {tk : Nat → Bool} : ∀ n, (freeL tk n).length ≤ n
  | 0 => Nat.le_refl _
  | n + 1 => by
    have := freeL_len (tk := tk) n
    unfold freeL
    split
    · omega
    · rw [List.length_append]; simp; omega
def keyQ10 (C : CfgZ) (J : Nat → Nat) (q : Nat) : Nat := J (qL C (8 * q)) * 65536 + q
def spotL (C : CfgZ) (J : Nat → Nat) (l : List Nat) : List Value := l.flatMap fun (q : Nat) => [Value.int .i64 ((q : Nat) : Int), Value.int .u32 ((J (qL C (8 * q)) : Nat) : Int)]
theorem spotL_snoc (C : CfgZ) (J : Nat → Nat) (l : List Nat) (q : Nat) : spotL C J (l ++ [q]) = spotL C J l ++ [.int .i64 (q : Int), .int .u32 (J (qL C (8 * q)) : Int)] := by
  unfold spotL
  rw [List.flatMap_append]
  simp
theorem spotL_get (C : CfgZ) (J : Nat → Nat) : ∀ (l : List Nat) (i : Nat) (q : Nat), l[i]? = some q → (spotL C J l)[i * 2]? = some (.int .i64 (q : Int)) ∧ (spotL C J l)[i * 2 + 1]? = some (.int .u32 (J (qL C (8 * q)) : Int))
  | [], i, q, h => by simp at h
  | x :: l, 0, q, h => by
    have : x = q := by simpa using h
    subst this
    exact ⟨rfl, rfl⟩
  | x :: l, i + 1, q, h => by
    have := spotL_get C J l i q (by simpa using h)
    have e : spotL C J (x :: l) = .int .i64 (x : Int) :: .int .u32 (J (qL C (8 * x)) : Int) :: spotL C J l := rfl
    rw [e, show (i + 1) * 2 = i * 2 + 2 by omega, show i * 2 + 2 + 1 = i * 2 + 1 + 2 by omega]
    exact this
/-- Some free frames are laid. -/
structure SpI (C : CfgZ) (J : Nat → Nat) (w0 : World) (sb : Nat) (l : List Nat) (n : Nat) (v : Value) (wr : World) : Prop where
  head : Holds wr sb #[v] 209
  own : wr.ownsRow (sb + 1) 192 2 v n (spotL C J l)
  len : n = l.length
  gr : Gr [] w0 wr
  fl : w0.heap.size ≤ sb
section
variable {C : CfgZ} {J : Nat → Nat} {w0 w1 w2 w6 wr w' : World} {sb n g cp : Nat} {l : List Nat} {v : Value} {q : Nat}
theorem SpI.gr0 (h : SpI C J w0 sb l n v wr) (k : Gr [] wr w') : SpI C J w0 sb l n v w' := ⟨h.head.gr0 k, own_gr0 h.own k, h.len, h.gr.trans k, h.fl⟩
theorem SpI.snoc (h : SpI C J w0 sb l n v w1) (g1 : Gr [] w1 w2) (hown : w6.ownsRow (sb + 1) 192 2 (.slice (some ⟨g, 0, none⟩) (n + 1) cp) (n + 1) (spotL C J l ++ [.int .i64 (q : Int), .int .u32 (J (qL C (8 * q)) : Int)]))
    (hg : w2.grownBy w6 v.ownBlock) : SpI C J w0 sb (l ++ [q]) (n + 1) (.slice (some ⟨g, 0, none⟩) (n + 1) cp) (w6.setCell ⟨sb, 0, none⟩ (.slice (some ⟨g, 0, none⟩) (n + 1) cp)) := by
  have hlr : ∀ b, v.ownBlock = some b → sb + 1 ≤ b ∧ b < w1.heap.size := fun b e => h.own.lt b e
  have hG : Gr (v.ownBlock.toList ++ [sb]) w1 (w6.setCell ⟨sb, 0, none⟩ (.slice (some ⟨g, 0, none⟩) (n + 1) cp)) := (((g1.of0 (cs := v.ownBlock.toList ++ [sb])).trans ((gr_grown9 hg).mono fun b hb => List.mem_append.2 (.inl hb)))).setCell (p := ⟨sb, 0, none⟩) (.inl (by simp)) _
  refine ⟨?_, ?_, by rw [List.length_append, ← h.len]; rfl, ?_, h.fl⟩
  · have hd : Holds w6 sb #[v] 209 := (h.head.gr0 g1).gr (gr_grown9 hg) (fun e => by have := (hlr sb (by simpa using e)).1; omega)
    exact hd.set 0 (.slice (some ⟨g, 0, none⟩) (n + 1) cp)
  · rw [spotL_snoc]
    exact own_gr hown ((Gr.refl [sb] w6).setCell (p := ⟨sb, 0, none⟩) (.inl (by simp)) _) (fun b hb e => by have := (hown.lt b hb).1; simp at e; omega)
  · refine h.gr.nextN hG fun x hx => .inr ?_
    have h2 := h.fl
    rcases List.mem_append.1 hx with hb | hb
    · have := (hlr x (by simpa using hb)).1; omega
    · have : x = sb := by simpa using hb
      omega
theorem SpI.sp (h : SpI C J w0 sb l n v wr) (hn : 1 ≤ n) (h7 : n ≤ 70000) (hq : ∀ q ∈ l, q < 65536) : ∃ lb cap K, SpIs wr sb lb n cap K ∧ sb + 1 ≤ lb ∧ ∀ x, ImgK K n x ↔ ∃ q ∈ l, keyQ10 C J q = x := by
  rcases h.own.2 with ⟨_, hz⟩ | ⟨gr, cr, curr, hvr, hgr, hhr, x1, x2, hsr, htr⟩
  · omega
  have hhd := h.head
  rw [hvr] at hhd
  have hK : ∀ i, i < n → ∃ q, l[i]? = some q := fun i hi => ⟨l[i]'(by rw [← h.len]; exact hi), List.getElem?_eq_getElem _⟩
  refine ⟨gr, cr, fun i => keyQ10 C J (l[i]?.getD 0), ⟨hhd, ⟨curr, hhr, fun i hi => ?_⟩, by omega, by omega, h7⟩, hgr, fun x => ?_⟩
  · obtain ⟨q, e⟩ := hK i hi
    obtain ⟨s1, s2⟩ := spotL_get C J l i q e
    have hq6 := hq q (List.mem_of_getElem? e)
    rw [← htr] at s1 s2
    rw [List.getElem?_take, if_pos (by omega), Array.getElem?_toList] at s1 s2
    rw [e]
    show curr[i * 2]? = some (frV (keyQ10 C J q)) ∧ curr[i * 2 + 1]? = some (mvV (keyQ10 C J q))
    unfold frV mvV keyQ10
    rw [show (J (qL C (8 * q)) * 65536 + q) % 65536 = q by omega, show (J (qL C (8 * q)) * 65536 + q) / 65536 = J (qL C (8 * q)) by omega]
    exact ⟨s1, s2⟩
  · constructor
    · rintro ⟨i, hi, rfl⟩
      obtain ⟨q, e⟩ := hK i hi
      exact ⟨q, List.mem_of_getElem? e, by show _ = keyQ10 C J (l[i]?.getD 0); rw [e]; rfl⟩
    · rintro ⟨q, hm, rfl⟩
      obtain ⟨i, hi, e⟩ := List.getElem_of_mem hm
      refine ⟨i, by rw [h.len]; exact hi, ?_⟩
      show keyQ10 C J (l[i]?.getD 0) = keyQ10 C J q
      rw [List.getElem?_eq_getElem hi, e]
      rfl
end
end Go.Proofs.YtifekejcbhllpaaGreat

/-
  Layer 10: coolest.
-/
namespace Go.Proofs.YtifekejcbhllpaaGreat
open Go.RowKit
set_option linter.unusedVariables false

theorem assert10 (v : Value) (xT : TypeId) (w : World) : (Instr.typeAssert (.iface 192 v) xT 192 true).run Tryz.prog w = .ok (.tuple #[v, .bool true]) w := by kernel_rfl
theorem pigeon10 : ∀ (G : Nat) (fr : Nat → Nat) (H T : Nat), (∀ q, q < H → q < T ∨ ∃ g, g < G ∧ fr g = q) → H ≤ T + G
  | 0, fr, H, T, h => by
    refine Decidable.byContradiction fun hc => ?_
    rcases h T (by omega) with q | ⟨g, hg, _⟩
    · omega
    · omega
  | G + 1, fr, H, T, h => by
    by_cases hx : fr G < H
    · have := pigeon10 G (fun g => if fr g < fr G then fr g else fr g - 1) (H - 1) T (fun q hq => by
        by_cases c : q < fr G
        · rcases h q (by omega) with a | ⟨g, hg, e⟩
          · exact .inl a
          · refine .inr ⟨g, ?_, ?_⟩
            · have : g ≠ G := fun e2 => by rw [e2] at e; omega
              omega
            · show (if fr g < fr G then fr g else fr g - 1) = q
              rw [if_pos (by omega)]; exact e
        · rcases h (q + 1) (by omega) with a | ⟨g, hg, e⟩
          · exact .inl (by omega)
          · refine .inr ⟨g, ?_, ?_⟩
            · have : g ≠ G := fun e2 => by rw [e2] at e; omega
              omega
            · show (if fr g < fr G then fr g else fr g - 1) = q
              rw [if_neg (by omega)]; omega)
      omega
    · have := pigeon10 G fr H T (fun q hq => by
        rcases h q hq with a | ⟨g, hg, e⟩
        · exact .inl a
        · refine .inr ⟨g, ?_, e⟩
          have : g ≠ G := fun e2 => by rw [e2] at e; omega
          omega)
      omega
section
variable {w w' : World} {X : HtA} {A : FlA} {a : DevA} {C : CfgZ} {F : Nat → Nat → Nat} {V : FlV} {c : Nat → Nat} {N lim : Nat} {S : HtS}
end
end Go.Proofs.YtifekejcbhllpaaGreat

/-
  Layer 10: a place's word, and its entry in the table.
-/
namespace Go.Proofs.YtifekejcbhllpaaGreat
open Go.RowKit
set_option linter.unusedVariables false

theorem pk_p (x M : Nat) (hx : x < 65536) (hM : M < 4294967296) : withN x 16 32 M = M * 65536 + x := by
  unfold withN
  rw [if_pos (by unfold okF; omega)]
  show (x / 2 ^ (16 + 32)) * 2 ^ (16 + 32) + (M % 2 ^ 32) * 2 ^ 16 + x % 2 ^ 16 = _
  omega
theorem f_p (n : Nat) : fieldN n 16 32 = n / 65536 % 4294967296 := by
  unfold fieldN
  rw [if_pos (by unfold okF; omega)]
  show n / 2 ^ 16 % 2 ^ 32 = _
  omega
theorem hword_any (f m : Nat) (hf : f < 65536) (hm : m < 4294967296) (w : World) : Calls Tryz.prog 92 #[.agg #[.int .i64 (f : Int), .int .u32 (m : Int)]] w fun e w' => e = .returned (.int .u64 ((guardN (m * 65536 + f) : Nat) : Int)) ∧ Gr [] w w' := by
  have w1 : IntKind.u64.wrap (f : Int) = (f : Int) := IntWalk.u64_in _ (by omega)
  have w2 : IntKind.u64.wrap (m : Int) = (m : Int) := IntWalk.u64_in _ (by omega)
  have HW := Lib.hid (fun W => with_any f 16 32 m W (by omega) (by omega) (by omega))
  rw [pk_p f m hf hm] at HW
  have hk : m * 65536 + f < 18446744073709551616 := by omega
  have HG := Lib.hid (fun W => guard_any (m * 65536 + f) W hk)
  generalize m * 65536 + f = k at *
  have ga := Lib.hid ((Gr.refl [] w).alloc (Obj.cells #[.int .i64 (f : Int), .int .u32 (m : Int)] 97))
  clear hf hm hk
  go_enter Tryz.func92, Tryz.ntmps92
  go_wp2_with fail
  refine (HW.out _).mono ?_
  rintro e w3 ⟨rfl, rfl⟩
  go_wp2_with fail
  refine (HG.out _).mono ?_
  rintro e w4 ⟨rfl, b4⟩
  have H4 := Lib.hid (ga.out.trans (Gr.ofBelow (cs := []) b4))
  clear b4
  go_wp2_with fail
  go_ret
  exact ⟨rfl, H4.out⟩
section
variable {w w' : World} {A : FlA} {a : DevA} {C : CfgZ} {F : Nat → Nat → Nat} {V : FlV} {c : Nat → Nat} {N pb : Nat}
set_option maxRecDepth 100000 in
set_option maxHeartbeats 8000000 in
/-- A page's word of the table is written. -/
theorem henter_any (fl : FLc C A a true F V c N w) (hc : w.cell? ⟨pb, 0, none⟩ = some (.pointer (some ⟨A.fb, 0, none⟩))) (hN : N < 490000000) (g f m : Nat) (hg : g < 16384) (hl : g / 8 < cR C * cL C) (hf : f < 65536) (hm : m < 4294967296) :
    Calls Tryz.prog 56 #[.pointer (some ⟨pb, 0, none⟩), .int .i64 (g : Int), .agg #[.int .i64 (f : Int), .int .u32 (m : Int)]] w fun e w' => ∃ V' : FlV, e = .returned (.int .i64 0) ∧ V'.J = stJ10 C (qL C (g / 8)) V.J c ∧ FLc C A a true (fun l2 k => if l2 = g / 8 then updF (F (g / 8)) (g % 8) (guardN (m * 65536 + f)) k else F l2 k) V' (stC10 C (qL C (g / 8)) c) (N + 4200) w' ∧ Gr (A.all (cR C) ++ a.all) w w' := by
  have HWd := Lib.hid (fun W => hword_any f m hf hm W)
  have HWr := Lib.hid (fun W (g1 : Gr [] w W) => (fl.gr0 g1).word hN (g / 8) (g % 8) (guardN (m * 65536 + f)) hl (Nat.mod_lt _ (by omega)) (guardN_lt _ (by omega)))
  obtain ⟨K, hK⟩ : ∃ K, K = guardN (m * 65536 + f) := ⟨_, rfl⟩
  rw [← hK] at HWd HWr ⊢
  have t1 : (g : Int).tdiv 8 = ((g / 8 : Nat) : Int) := (Int.ofNat_tdiv g 8).symm
  have t2 : (g : Int).tmod 8 = ((g % 8 : Nat) : Int) := (Int.ofNat_tmod g 8).symm
  obtain ⟨l, hl0⟩ : ∃ l, l = g / 8 := ⟨_, rfl⟩
  obtain ⟨k, hk0⟩ : ∃ k, k = g % 8 := ⟨_, rfl⟩
  rw [← hl0] at t1 HWr ⊢
  rw [← hk0] at t2 HWr ⊢
  have w1 : IntKind.i64.wrap (l : Int) = (l : Int) := IntWalk.i64_in _ (by omega)
  have w2 : IntKind.i64.wrap (k : Int) = (k : Int) := IntWalk.i64_in _ (by omega)
  have ga := (Gr.refl [] w).alloc (Obj.cells #[.int .i64 (f : Int), .int .u32 (m : Int)] 97)
  have hh := Holds.new w #[.int .i64 (f : Int), .int .u32 (m : Int)] 97
  have hc2 := (ga.cell0 (World.block_lt_of_cell? w _ hc)).trans hc
  have HA := Lib.hid ga
  clear hK hl0 hk0 fl hf hm hg hl hc
  go_enter Tryz.func56, Tryz.ntmps56
  go_upto_region 1 with fail
  generalize w.alloc (Obj.cells #[.int .i64 (f : Int), .int .u32 (m : Int)] 97) = w1 at *
  obtain ⟨bb, hbb⟩ : ∃ b, w.heap.size = b := ⟨_, rfl⟩
  rw [hbb] at hh ⊢
  clear hbb ga
  have k0 := kp_cell hc2
  have k1 := kp_cell (hh.cell 0)
  have k2 := kp_cell (hh.cell 1)
  have hne := kp_ne w1
  refine wp_region_kp_tail 10 (by kernel_rfl) (by kernel_rfl) ?_
  simp only [List.take_succ_cons, List.take_zero, List.drop_succ_cons, List.drop_zero]
  repeat (go_big_quiet_step ((rename_i x; exact kp_call x ((HWd.out _).mono fun _ _ q => ⟨q.1, q.2.below0⟩))))
  with_reducible refine wpQuiet_nil ?_
  rintro _ ⟨y, rfl⟩
  have gy := Lib.hid (HA.out.trans (Gr.ofBelow (cs := []) y.h))
  clear k0 k1 k2 hne hh hc2 HA HWd
  generalize y.w = w2 at *
  clear y
  go_wp2_with fail
  refine (HWr.out _ gy.out).mono ?_
  rintro e w3 ⟨V', rfl, e3, f3, g3⟩
  have H3 := Lib.hid (And.intro e3 (And.intro f3 ((gy.out.of0 (cs := A.all (cR C) ++ a.all)).trans g3)))
  clear e3 f3 g3
  go_wp2_with fail
  go_ret
  exact ⟨V', rfl, H3.out.1, H3.out.2.1, H3.out.2.2⟩
end
end Go.Proofs.YtifekejcbhllpaaGreat

/-
  Layer 10: a page moves.
-/
namespace Go.Proofs.YtifekejcbhllpaaGreat
open Go.RowKit
set_option linter.unusedVariables false

/-- The first i lines of frame q are frame f's. -/
def cpF (F : Nat → Nat → Nat) (f q i : Nat) : Nat → Nat → Nat := fun l m => if 8 * q ≤ l ∧ l < 8 * q + i then F (8 * f + (l - 8 * q)) m else F l m
def movS (S : HtS) (g q : Nat) : HtS := ⟨updN S.fr g q, updN S.mv g (S.mv g + 1), S.ht, fun x => if x = q then true else if x = S.fr g then false else S.tk x⟩
section
variable {w w' : World} {X : HtA} {A : FlA} {a : DevA} {C : CfgZ} {F F' : Nat → Nat → Nat} {V V' : FlV} {c c' : Nat → Nat} {N N' lim : Nat} {S : HtS}
theorem HtP.mov (hC : OkC C) (hp : 0 < pgC C) (h : HtP C S) {g q : Nat} (hg : g < pgC C) (hq : q < frmC C) (ht : tbC C ≤ q) (hn : ∀ g, g < pgC C → S.fr g ≠ q) : HtP C (movS S g q) := by
  have hu : ∀ g2, (movS S g q).fr g2 = if g2 = g then q else S.fr g2 := fun g2 => rfl
  refine ⟨fun g2 h2 => ?_, fun g2 g3 h2 h3 e => ?_, fun x hx => ?_⟩
  · rw [hu]
    split
    · exact ⟨ht, hq⟩
    · exact h.lt g2 h2
  · rw [hu, hu] at e
    by_cases e2 : g2 = g
    · by_cases e3 : g3 = g
      · rw [e2, e3]
      · rw [if_pos e2, if_neg e3] at e
        exact absurd e.symm (hn g3 h3)
    · by_cases e3 : g3 = g
      · rw [if_neg e2, if_pos e3] at e
        exact absurd e (hn g2 h2)
      · rw [if_neg e2, if_neg e3] at e
        exact h.inj g2 g3 h2 h3 e
  · show (if x = q then true else if x = S.fr g then false else S.tk x) = true ↔ _
    by_cases c1 : x = q
    · rw [if_pos c1]
      exact ⟨fun _ => .inr ⟨g, hg, by rw [hu, if_pos rfl, c1]⟩, fun _ => rfl⟩
    · rw [if_neg c1]
      by_cases c2 : x = S.fr g
      · rw [if_pos c2]
        constructor
        · intro e; exact absurd e (by simp)
        · rintro (e | ⟨g2, h2, e⟩)
          · have := (h.lt g hg).1; omega
          · rw [hu] at e
            by_cases e2 : g2 = g
            · rw [if_pos e2] at e; exact absurd e.symm c1
            · rw [if_neg e2] at e
              exact absurd (h.inj g2 g h2 hg (e.trans c2)) e2
      · rw [if_neg c2, h.tk x hx]
        constructor
        · rintro (e | ⟨g2, h2, e⟩)
          · exact .inl e
          · refine .inr ⟨g2, h2, ?_⟩
            rw [hu, if_neg (fun e2 => c2 (by rw [← e, e2]))]
            exact e
        · rintro (e | ⟨g2, h2, e⟩)
          · exact .inl e
          · rw [hu] at e
            by_cases e2 : g2 = g
            · rw [if_pos e2] at e; exact absurd e.symm c1
            · rw [if_neg e2] at e
              exact .inr ⟨g2, h2, e⟩
theorem cpF_tab (hC : OkC C) (hp : 0 < pgC C) {f q i g : Nat} (hg : g < pgC C) (ht : tbC C ≤ q) (k : Nat) : cpF F f q i (g / 8) k = F (g / 8) k := by
  obtain ⟨n1, n2, n3, n4, n5, n6⟩ := pg_nums hC hp
  unfold cpF
  rw [if_neg (by omega)]
theorem cpF_own {f q i : Nat} (hfq : f ≠ q) (k : Nat) {j : Nat} (hj : j < 8) (hi : i ≤ 8) : cpF F f q i (8 * f + j) k = F (8 * f + j) k := by
  unfold cpF
  rw [if_neg (by omega)]
end
end Go.Proofs.YtifekejcbhllpaaGreat

/-
  Layer 10: a hot page is examined.
-/
namespace Go.Proofs.YtifekejcbhllpaaGreat
open Go.RowKit
set_option linter.unusedVariables false

theorem fld_s10 (x y : Int) (W : World) : (Instr.field 192 (.agg #[.int .i64 x, .int .u32 y]) 1).run Tryz.prog W = .ok (.int .u32 y) W := by kernel_rfl
section
variable {w w' : World} {X : HtA} {A : FlA} {a : DevA} {C : CfgZ} {F F' : Nat → Nat → Nat} {V V' : FlV} {c c' : Nat → Nat} {N N' lim : Nat} {S : HtS}
end
end Go.Proofs.YtifekejcbhllpaaGreat

/-
  Layer 10: a line of a page is written.
-/
namespace Go.Proofs.YtifekejcbhllpaaGreat
open Go.RowKit
set_option linter.unusedVariables false

def htS (S : HtS) (g v : Nat) : HtS := ⟨S.fr, S.mv, updN S.ht g v, S.tk⟩
section
variable {w w' : World} {X : HtA} {A : FlA} {a : DevA} {C : CfgZ} {F F' : Nat → Nat → Nat} {V V' : FlV} {c c' : Nat → Nat} {N N' lim : Nat} {S : HtS}
theorem HtIs.more (h : HtIs w X A a C F V c N lim S) (hN : N ≤ N') : HtIs w X A a C F V c N' lim S :=
  ⟨h.fl.more hN, h.pos, h.head, h.pls, h.hts, h.tks, h.na, h.nd, h.cap, h.inv, h.tab, fun g hg => Nat.le_trans (h.mvb g hg) hN, h.htb⟩
end
end Go.Proofs.YtifekejcbhllpaaGreat

/-
  Layer 10: Write; pages told by what they read.
-/
namespace Go.Proofs.YtifekejcbhllpaaGreat
open Go.RowKit
set_option linter.unusedVariables false

section
variable {w w' : World} {X : HtA} {A : FlA} {a : DevA} {C : CfgZ} {F F' : Nat → Nat → Nat} {V V' : FlV} {c c' : Nat → Nat} {N N' lim : Nat} {S : HtS}
/-- Pages at work, told by their lines' words. -/
structure HL (C : CfgZ) (X : HtA) (A : FlA) (a : DevA) (lim : Nat) (Y : Nat → Nat → Nat → Nat) (N : Nat) (w : World) : Prop where
  l1 : 1 ≤ lim
  l2 : lim < 1000000
  st : ∃ (F : Nat → Nat → Nat) (V : FlV) (c : Nat → Nat) (S : HtS), HtIs w X A a C F V c N lim S ∧ ∀ g k m, g < pgC C → k < 8 → m < 8 → F (8 * S.fr g + k) m = Y g k m
variable {Y : Nat → Nat → Nat → Nat}
theorem HL.lt (h : HL C X A a lim Y N w) : ∀ x ∈ X.all ++ (A.all (cR C) ++ a.all), x < w.heap.size := by
  obtain ⟨l1, l2, F, V, c, S, h1, h2⟩ := h
  exact h1.lt
end
end Go.Proofs.YtifekejcbhllpaaGreat
