/-
  HnAb: HtU, HtX, HtY, FlZa, FmC.
-/
import Derived.Test.YtefmbchebobceaaGreatHkAa
import Derived.Test.YtefmbchebobceaaGreatHkAb
import Derived.Test.YtefmbchebobceaaGreatHkAc
import Derived.Test.YtefmbchebobceaaGreatHkAd
import Derived.Test.YtefmbchebobceaaGreatHkAe
import Derived.Test.YtefmbchebobceaaGreatHkAf
import Derived.Test.YtefmbchebobceaaGreatHkAg
import Derived.Test.YtefmbchebobceaaGreatHkAh
import Derived.Test.YtefmbchebobceaaGreatHkAi
import Derived.Test.YtefmbchebobceaaGreatHkAj
import Derived.Test.YtefmbchebobceaaGreatHkAk
import Derived.Test.YtefmbchebobceaaGreatHkAl
import Derived.Test.YtefmbchebobceaaGreatHkAm
import Derived.Test.YtefmbchebobceaaGreatHkAn
import Derived.Test.YtefmbchebobceaaGreatHkAo
import Derived.Test.YtefmbchebobceaaGreatHkAp
import Derived.Test.YtefmbchebobceaaGreatHkAq
import Derived.Test.YtefmbchebobceaaGreatHkAr
import Derived.Test.YtefmbchebobceaaGreatHkAs
import Derived.Test.YtefmbchebobceaaGreatHkAt
import Derived.Test.YtefmbchebobceaaGreatHkAu
import Derived.Test.YtefmbchebobceaaGreatHkAv
import Derived.Test.YtefmbchebobceaaGreatHkAw
import Derived.Test.YtefmbchebobceaaGreatHkAx
import Derived.Test.YtefmbchebobceaaGreatHkAy
import Derived.Test.YtefmbchebobceaaGreatHkAz
import Derived.Test.YtefmbchebobceaaGreatHkBa
import Derived.Test.YtefmbchebobceaaGreatHkBb
import Derived.Test.YtefmbchebobceaaGreatHkBc
import Derived.Test.YtefmbchebobceaaGreatHkBd
import Derived.Test.YtefmbchebobceaaGreatHkBe
import Derived.Test.YtefmbchebobceaaGreatHkBf
import Derived.Test.YtefmbchebobceaaGreatHkBg
import Derived.Test.YtefmbchebobceaaGreatHkBh
import Derived.Test.YtefmbchebobceaaGreatHkBi
import Derived.Test.YtefmbchebobceaaGreatHkBj
import Derived.Test.YtefmbchebobceaaGreatHkBk
import Derived.Test.YtefmbchebobceaaGreatHnAa
import Derived.WalkKit
import Derived.Handy
import Derived.Lib.Hide
import Derived.Deep.QuietTactic
import Derived.BigQuiet
import Derived.KernelRfl
import Derived.StillTailTactics
import Derived.IntWalk
import Derived.Maps.RangeWalk
import Derived.Maps.OwnSet
import Derived.Deep.LoopGhost
import Derived.Laws.AppendOwn
import Derived.Shelf.SlIterI.Nil
import Derived.Shelf.SortM.Plain
import Derived.Shelf.SortM.SortNone
import Derived.Ground.GgzProg
import Derived.Ground.SlgmProg
import Derived.Test.YtefmbchebobceaaGreatRows
import Derived.Lib.AppendStr
import Derived.Shelf.Strings.Repeat
import Derived.Ground.NamesProg
import Derived.Lib.Agree
import Derived.Deep.MidRow
import Derived.Deep.RegionHeld3
import Derived.Deep.CutBlock
import Derived.ProofKit
import Derived.OpenShut
import Derived.SizedLaws
import Derived.ChangeSlices
import Derived.Deep.Slices
import Derived.Deep.Grids
import Derived.Deep.RegionLaw
import Derived.Deep.AppendLies
import Derived.BigRegion

set_option linter.unusedVariables false

/-
  HotAlike: the law's small; pages at work after so many writes.
-/
namespace Go.Proofs.YtefmbchebobceaaGreat
open Go.RowKit
set_option linter.unusedVariables false

def smC (r s p : Int) (key : Nat) : CfgZ := ⟨2 + mx r % 2, 16, mx s % 4, 1 + mx p % 4, key⟩
def smL (h : Int) : Int := 1 + mx h % 5
theorem smC_ok (r s p : Int) (key : Nat) (hk : key < 18446744073709551616) : OkC (smC r s p key) ∧ 0 < pgC (smC r s p key) ∧ pgC (smC r s p key) ≤ 2 ∧ 1 ≤ sizeC (smC r s p key) ∧ sizeC (smC r s p key) ≤ 67 := by
  have h0 := mx_nonneg r
  have h2 := mx_nonneg s
  have h3 := mx_nonneg p
  obtain ⟨C, hC⟩ : ∃ C, C = smC r s p key := ⟨_, rfl⟩
  rw [← hC]
  have e1 : C.r = 2 + mx r % 2 := by rw [hC]; rfl
  have e2 : C.l = 16 := by rw [hC]; rfl
  have e3 : C.s = mx s % 4 := by rw [hC]; rfl
  have e4 : C.psi = 1 + mx p % 4 := by rw [hC]; rfl
  have e5 : C.key = key := by rw [hC]; rfl
  clear hC
  have ok : okP C := by unfold okP; omega
  obtain ⟨_, hs⟩ := regS_ok ok
  have hrs : 0 ≤ regS C ∧ regS C ≤ 22 := by rw [hs]; omega
  have hm : C.r * regS C ≤ 3 * 22 := Int.mul_le_mul (by omega) hrs.2 hrs.1 (by omega)
  have hm0 : 0 ≤ C.r * regS C := Int.mul_nonneg (by omega) hrs.1
  have hO : OkC C := ⟨by omega, by omega, ok, by omega, by omega⟩
  have hz := hO.size
  have hp : pgC C = pgN (restC C) (restC C) := by
    unfold pgC
    rw [if_neg (by omega)]
  have hr : restC C = 2 ∨ restC C = 3 := by
    unfold restC
    rw [e2, e1]
    omega
  refine ⟨hO, ?_, ?_, by omega, by omega⟩
  · rw [hp]; rcases hr with h | h <;> rw [h] <;> decide
  · rw [hp]; rcases hr with h | h <;> rw [h] <;> decide
set_option maxRecDepth 100000 in
set_option maxHeartbeats 8000000 in
theorem small10 (r l s p h : Int) (key : Nat) (w : World) : Calls Tryz.prog 9 #[.agg #[.int .i64 r, .int .i64 l, .int .i64 s, .int .i64 p, .int .i64 h, .int .u64 (key : Int)]] w fun e w' => e = .returned (.tuple #[cfgV (smC r s p key), .int .i64 (smL h)]) ∧ Gr [] w w' := by
  have hmx := max0 Tryz.prog
  have h0 := mx_nonneg r
  have h2 := mx_nonneg s
  have h3 := mx_nonneg p
  have h4 := mx_nonneg h
  obtain ⟨r1, e1⟩ : ∃ x, x = mx r % 2 := ⟨_, rfl⟩
  obtain ⟨s1, e3⟩ : ∃ x, x = mx s % 4 := ⟨_, rfl⟩
  obtain ⟨p1, e4⟩ : ∃ x, x = mx p % 4 := ⟨_, rfl⟩
  obtain ⟨h1, e5⟩ : ∃ x, x = mx h % 5 := ⟨_, rfl⟩
  have u1 : (mx r).tmod 2 = mx r % 2 := Int.tmod_eq_emod_of_nonneg h0
  have u3 : (mx s).tmod 4 = mx s % 4 := Int.tmod_eq_emod_of_nonneg h2
  have u4 : (mx p).tmod 4 = mx p % 4 := Int.tmod_eq_emod_of_nonneg h3
  have u5 : (mx h).tmod 5 = mx h % 5 := Int.tmod_eq_emod_of_nonneg h4
  have b0 : IntKind.i64.wrap (mx r % 2) = mx r % 2 := IntWalk.i64_in _ (by omega)
  have b2 : IntKind.i64.wrap (mx s % 4) = mx s % 4 := IntWalk.i64_in _ (by omega)
  have b3 : IntKind.i64.wrap (mx p % 4) = mx p % 4 := IntWalk.i64_in _ (by omega)
  have b6 : IntKind.i64.wrap (mx h % 5) = mx h % 5 := IntWalk.i64_in _ (by omega)
  have b1 : IntKind.i64.wrap (2 + mx r % 2) = 2 + mx r % 2 := IntWalk.i64_in _ (by omega)
  have b4 : IntKind.i64.wrap (1 + mx p % 4) = 1 + mx p % 4 := IntWalk.i64_in _ (by omega)
  have b5 : IntKind.i64.wrap (1 + mx h % 5) = 1 + mx h % 5 := IntWalk.i64_in _ (by omega)
  have hb1 := (Holds.new w #[.int .i64 r, .int .i64 l, .int .i64 s, .int .i64 p, .int .i64 h, .int .u64 (key : Int)] 24).alloc (Obj.cells #[.int .i64 0, .int .i64 0, .int .i64 0, .int .i64 0, .int .u64 0] 27)
  have hb2 := Holds.new (w.alloc (Obj.cells #[.int .i64 r, .int .i64 l, .int .i64 s, .int .i64 p, .int .i64 h, .int .u64 (key : Int)] 24)) #[.int .i64 0, .int .i64 0, .int .i64 0, .int .i64 0, .int .u64 0] 27
  rw [World.size_alloc] at hb2
  have hg := ((Gr.refl [] w).alloc (Obj.cells #[.int .i64 r, .int .i64 l, .int .i64 s, .int .i64 p, .int .i64 h, .int .u64 (key : Int)] 24)).alloc (Obj.cells #[.int .i64 0, .int .i64 0, .int .i64 0, .int .i64 0, .int .u64 0] 27)
  have H := Lib.hid (And.intro hb1 (And.intro hb2 hg))
  unfold cfgV smC smL
  clear hb1 hb2 hg e1 e3 e4 e5
  go_enter Tryz.func9, Tryz.ntmps9
  go_upto_region 1 with fail
  generalize (w.alloc (Obj.cells #[.int .i64 r, .int .i64 l, .int .i64 s, .int .i64 p, .int .i64 h, .int .u64 (key : Int)] 24)).alloc (Obj.cells #[.int .i64 0, .int .i64 0, .int .i64 0, .int .i64 0, .int .u64 0] 27) = w1 at *
  obtain ⟨b, hb⟩ : ∃ b, w.heap.size = b := ⟨_, rfl⟩
  have HW := Lib.hid (show w.heap.size ≤ b by omega)
  rw [hb] at H ⊢
  clear hb
  have c0 : w1.cell? ⟨b, 0, none⟩ = some (.int .i64 r) := H.out.1.cell 0
  have c1 : w1.cell? ⟨b, 1, none⟩ = some (.int .i64 l) := H.out.1.cell 1
  have c2 : w1.cell? ⟨b, 2, none⟩ = some (.int .i64 s) := H.out.1.cell 2
  have c3 : w1.cell? ⟨b, 3, none⟩ = some (.int .i64 p) := H.out.1.cell 3
  have c4 : w1.cell? ⟨b, 4, none⟩ = some (.int .i64 h) := H.out.1.cell 4
  have c5 : w1.cell? ⟨b, 5, none⟩ = some (.int .u64 (key : Int)) := H.out.1.cell 5
  obtain ⟨b2', hb2'⟩ : ∃ b2', b + 1 = b2' := ⟨_, rfl⟩
  have HW2 := Lib.hid (show w.heap.size ≤ b2' by have := HW.out; omega)
  have hn1 : b ≠ b2' := by omega
  have hn2 : b2' ≠ b := by omega
  rw [hb2'] at H ⊢
  clear hb2'
  have d0 : w1.cell? ⟨b2', 0, none⟩ = some (.int .i64 0) := H.out.2.1.cell 0
  have d1 : w1.cell? ⟨b2', 1, none⟩ = some (.int .i64 0) := H.out.2.1.cell 1
  have d2 : w1.cell? ⟨b2', 2, none⟩ = some (.int .i64 0) := H.out.2.1.cell 2
  have d3 : w1.cell? ⟨b2', 3, none⟩ = some (.int .i64 0) := H.out.2.1.cell 3
  have d4 : w1.cell? ⟨b2', 4, none⟩ = some (.int .u64 0) := H.out.2.1.cell 4
  have f0 := H.out.2.1.frozen 0
  have f1 := H.out.2.1.frozen 1
  have f2 := H.out.2.1.frozen 2
  have f3 := H.out.2.1.frozen 3
  have f4 := H.out.2.1.frozen 4
  have HF := Lib.hid (((((H.out.2.2.setCell (p := ⟨b2', 0, none⟩) (.inr HW2.out) (.int .i64 (2 + mx r % 2))).setCell (p := ⟨b2', 1, none⟩) (.inr HW2.out) (.int .i64 16)).setCell (p := ⟨b2', 2, none⟩) (.inr HW2.out) (.int .i64 (mx s % 4))).setCell (p := ⟨b2', 3, none⟩) (.inr HW2.out) (.int .i64 (1 + mx p % 4))).setCell (p := ⟨b2', 4, none⟩) (.inr HW2.out) (.int .u64 (key : Int)))
  go_region
  all_goals go_wp2_with fail
  exact bodyPost_ret (v := .tuple #[.agg #[.int .i64 (2 + mx r % 2), .int .i64 16, .int .i64 (mx s % 4), .int .i64 (1 + mx p % 4), .int .u64 (key : Int)], .int .i64 (1 + mx h % 5)]) (by simp [results, Tryz.results9, go_sem, *]) rfl ⟨rfl, by first | exact HF.out | exact HF.out.drew⟩
section
variable {w w' : World} {X : HtA} {A : FlA} {a : DevA} {C : CfgZ} {Y : Nat → Nat → Nat → Nat} {lim n m : Nat}
end
end Go.Proofs.YtefmbchebobceaaGreat

/-
  HotMakes: the document's Count of a config.
-/
namespace Go.Proofs.YtefmbchebobceaaGreat
open Go.RowKit
set_option linter.unusedVariables false

theorem pgN_over {rest : Nat} : ∀ H, rest ≤ H → pgN rest H = pgN rest rest
  | 0 => fun h => by rw [show rest = 0 by omega]
  | H + 1 => fun h => by
    by_cases e : rest = H + 1
    · rw [e]
    · show (if H + 1 + (H + 64) / 64 ≤ rest then H + 1 else pgN rest H) = _
      rw [if_neg (by omega)]
      exact pgN_over H (by omega)
theorem pgN_step {rest g : Nat} (hg : 1 ≤ g) : pgN rest g = if g + (g + 63) / 64 ≤ rest then g else pgN rest (g - 1) := by
  obtain ⟨k, rfl⟩ : ∃ k, g = k + 1 := ⟨g - 1, by omega⟩
  rfl
/-- What Check says of a config on a device that is large enough. -/
theorem check_mil {C : CfgZ} : (checkC C 1000000 = 0 ↔ ¬ sizeC C = 0) := by
  by_cases h : 1 ≤ C.r ∧ C.r ≤ 16 ∧ okP C
  · obtain ⟨e1, e2, e3⟩ := check9_ok (n := 1000000) h
    obtain ⟨_, hs⟩ := regS_ok h.2.2
    have ok := h.2.2
    unfold okP at ok
    have b : C.r * regS C ≤ 16 * 1200 := Int.mul_le_mul (by omega) (by omega) (by omega) (by omega)
    rw [e3, if_neg (by omega)]
    constructor
    · intro _; omega
    · intro _; rfl
  · rw [check9_no h]
    have := (sizeC_zero (C := C) (n := 1000000)).1 (check9_no h)
    constructor
    · intro e; omega
    · intro e; exact absurd this e
set_option maxRecDepth 100000 in
set_option maxHeartbeats 16000000 in
theorem rcount_any (C : CfgZ) (hC : wfC C) (w : World) : Calls Tryz.prog 37 #[cfgV C] w fun e w' => e = .returned (.tuple #[.int .i64 (pgC C : Int), .int .i64 (tbC C : Int), .int .i64 (freeC C)]) ∧ Gr [] w w' := by
  have HCk := Lib.hid (fun W => rcheck9 C 1000000 W)
  have g0 := (Gr.refl [] w).alloc (Obj.cells #[.int .i64 C.r, .int .i64 C.l, .int .i64 C.s, .int .i64 C.psi, .int .u64 (C.key : Int)] 27)
  have hh := Holds.new w #[.int .i64 C.r, .int .i64 C.l, .int .i64 C.s, .int .i64 C.psi, .int .u64 (C.key : Int)] 27
  have H1 := Lib.hid (And.intro g0 hh)
  unfold cfgV at HCk ⊢
  clear g0 hh
  obtain ⟨ck, hck⟩ : ∃ ck, ck = checkC C 1000000 := ⟨_, rfl⟩
  have HK := Lib.hid (show ck = 0 ↔ ¬ sizeC C = 0 by rw [hck]; exact check_mil)
  rw [← hck] at HCk
  clear hck
  obtain ⟨G, hG⟩ : ∃ G, G = pgC C := ⟨_, rfl⟩
  obtain ⟨T, hT⟩ : ∃ T, T = tbC C := ⟨_, rfl⟩
  obtain ⟨fz, hfz⟩ : ∃ fz, fz = freeC C := ⟨_, rfl⟩
  rw [← hG, ← hT, ← hfz]
  have HG := Lib.hid (show G = pgC C ∧ T = (G + 63) / 64 ∧ fz = if G = 0 then 0 else C.r from ⟨hG, by rw [hT, hG]; rfl, by rw [hfz, hG]; rfl⟩)
  clear hG hT hfz
  go_enter Tryz.func37, Tryz.ntmps37
  go_upto_region 1 with fail
  generalize (w.alloc (Obj.cells #[.int .i64 C.r, .int .i64 C.l, .int .i64 C.s, .int .i64 C.psi, .int .u64 (C.key : Int)] 27)) = w1 at *
  obtain ⟨cb, hcb⟩ : ∃ b, w.heap.size = b := ⟨_, rfl⟩
  rw [hcb] at H1 ⊢
  clear hcb
  obtain ⟨c0, c1, c2, c3, c4⟩ := (show w1.cell? ⟨cb, 0, none⟩ = some (.int .i64 C.r) ∧ w1.cell? ⟨cb, 1, none⟩ = some (.int .i64 C.l) ∧ w1.cell? ⟨cb, 2, none⟩ = some (.int .i64 C.s) ∧ w1.cell? ⟨cb, 3, none⟩ = some (.int .i64 C.psi) ∧ w1.cell? ⟨cb, 4, none⟩ = some (.int .u64 (C.key : Int)) from ⟨H1.out.2.cell 0, H1.out.2.cell 1, H1.out.2.cell 2, H1.out.2.cell 3, H1.out.2.cell 4⟩)
  go_wp2_with fail
  refine (HCk.out _).mono ?_
  rintro e w2 ⟨rfl, g2⟩
  have H2 := Lib.hid (And.intro (H1.out.1.trans g2) (H1.out.2.gr0 g2))
  clear g2 c0 c1 c2 c3 c4 H1 HCk
  have c0 := H2.out.2.cell 0
  have c1 := H2.out.2.cell 1
  by_cases hz : sizeC C = 0
  · have hk0 : ¬ ck = 0 := fun e => HK.out.1 e hz
    have hp : G = 0 := by rw [HG.out.1]; unfold pgC; rw [if_pos (.inl hz)]
    have ht : T = 0 := by rw [HG.out.2.1, hp]
    have hf : fz = 0 := by rw [HG.out.2.2, if_pos hp]
    subst hp ht hf
    clear HK hz HG
    go_wp2_with fail
    go_ret3
    exact ⟨rfl, H2.out.1⟩
  · have hk0 : ck = 0 := HK.out.2 hz
    subst hk0
    have hin := sizeC_in hz
    by_cases h8 : C.l % 8 = 0
    · have t8 : C.l.tmod 8 = 0 := by rw [Int.tmod_eq_emod_of_nonneg (by omega)]; exact h8
      obtain ⟨H, q1, q2, q3, q4⟩ := rest_in hz h8
      have hp : G = pgN (restC C) H := by
        rw [HG.out.1]
        unfold pgC
        rw [if_neg (by rintro (x | x); exact hz x; exact x h8), pgN_over H (by omega)]
      obtain ⟨R, hR⟩ : ∃ R : Nat, C.r = (R : Int) := ⟨C.r.toNat, by omega⟩
      have hRn : C.r.toNat = R := by omega
      rw [hRn] at q3 q4
      rw [q4] at hp
      obtain ⟨rs, hrs⟩ : ∃ x, x = H - R := ⟨_, rfl⟩
      rw [← hrs] at hp
      have m1 : IntKind.i64.wrap (C.r * C.l) = ((8 * H : Nat) : Int) := by rw [q1]; exact IntWalk.i64_in _ (by omega)
      have m2 : ((8 * H : Nat) : Int).tdiv 8 = (H : Int) := by rw [Int.tdiv_eq_ediv_of_nonneg (by omega)]; omega
      have m3 : IntKind.i64.wrap (H : Int) = (H : Int) := IntWalk.i64_in _ (by omega)
      have x8 : IntKind.i64.wrap 0 = 0 := by rfl
      have HP := Lib.hid (And.intro hp (And.intro hrs (And.intro q2 (And.intro q3 (And.intro hR (show R ≤ 16 by omega))))))
      clear hp hrs q1 q3 q4 hin h8 hz HK hR hRn
      go_wp2_with fail
      go_loopw [7, 8] (fun pv gv wr => ∃ g : Nat, (1 ≤ g ∧ g ≤ H + 1) ∧ gv = .int .i64 (g : Int) ∧ pv = .int .i64 (pgN rs (g - 1) : Int) ∧ wr = w2) (fun _ gv _ => H + 1 - (intOf gv).toNat)
      case atStart => exact ⟨1, by omega, rfl, rfl, rfl⟩
      case round =>
        obtain ⟨g, hg, rfl, rfl, rfl⟩ := hrel
        by_cases hgH : g ≤ H
        · obtain ⟨e1, e2, e3, e4, e5, e6⟩ := HP.out
          have il : (g : Int) ≤ (H : Int) := by omega
          obtain ⟨g63, h63⟩ : ∃ x, x = g + 63 := ⟨_, rfl⟩
          obtain ⟨u, hu⟩ : ∃ x, x = (g + 63) / 64 := ⟨_, rfl⟩
          obtain ⟨gu, hgu⟩ : ∃ x, x = g + u := ⟨_, rfl⟩
          obtain ⟨gr, hgr⟩ : ∃ x, x = gu + R := ⟨_, rfl⟩
          have b1 : IntKind.i64.wrap ((g : Int) + 63) = (g63 : Int) := by rw [show (g : Int) + 63 = (g63 : Int) by omega]; exact IntWalk.i64_in _ (by omega)
          have b2 : (g63 : Int).tdiv 64 = (u : Int) := by rw [Int.tdiv_eq_ediv_of_nonneg (by omega)]; omega
          have b3 : IntKind.i64.wrap (u : Int) = (u : Int) := IntWalk.i64_in _ (by omega)
          have b4 : IntKind.i64.wrap ((g : Int) + (u : Int)) = (gu : Int) := by rw [show (g : Int) + (u : Int) = (gu : Int) by omega]; exact IntWalk.i64_in _ (by omega)
          have b5 : IntKind.i64.wrap ((gu : Int) + C.r) = (gr : Int) := by rw [e5, show (gu : Int) + (R : Int) = (gr : Int) by omega]; exact IntWalk.i64_in _ (by omega)
          have b6 : IntKind.i64.wrap ((g : Int) + 1) = (g : Int) + 1 := IntWalk.i64_in _ (by omega)
          have st := pgN_step (rest := rs) (g := g) hg.1
          have HH := Lib.hid (And.intro hg hgH)
          by_cases hc : gr ≤ H
          · have hc' : (gr : Int) ≤ (H : Int) := by omega
            rw [if_pos (by omega)] at st
            have HST := Lib.hid st
            clear st e1 e2 e3 e4 e5 e6 h63 hu hgu hgr hc hg hgH
            go_wp2_with fail
            go_roundw
            case rel => exact ⟨g + 1, by have := HH.out; omega, by go_num, by rw [show g + 1 - 1 = g by omega, HST.out], by first | rfl | trivial⟩
            case measure => have := HH.out; simp [intOf]; omega
          · have hc' : ¬ (gr : Int) ≤ (H : Int) := by omega
            rw [if_neg (by omega)] at st
            have HST := Lib.hid st
            clear st e1 e2 e3 e4 e5 e6 h63 hu hgu hgr hc hg hgH
            go_wp2_with fail
            go_roundw
            case rel => exact ⟨g + 1, by have := HH.out; omega, by go_num, by rw [show g + 1 - 1 = g by omega, HST.out], by first | rfl | trivial⟩
            case measure => have := HH.out; simp [intOf]; omega
        · obtain rfl : g = H + 1 := by omega
          have il : ¬ (((H + 1 : Nat) : Int) ≤ (H : Int)) := by omega
          have hp := HP.out.1
          rw [show H + 1 - 1 = H by omega, ← hp]
          by_cases hG0 : G = 0
          · have ht : T = 0 := by rw [HG.out.2.1, hG0]
            have hf : fz = 0 := by rw [HG.out.2.2, if_pos hG0]
            subst hG0 ht hf
            clear hp
            go_wp2_with fail
            go_ret3
            exact ⟨rfl, H2.out.1⟩
          · have ht := HG.out.2.1
            have hf : fz = C.r := by rw [HG.out.2.2, if_neg hG0]
            subst hf
            have hG2 : G ≤ 2048 := by rw [hp]; exact Nat.le_trans (pgN_le _ _) HP.out.2.2.1
            have hG1 : ¬ (G : Int) = 0 := by omega
            obtain ⟨g63, h63⟩ : ∃ x, x = G + 63 := ⟨_, rfl⟩
            have b1 : IntKind.i64.wrap ((G : Int) + 63) = (g63 : Int) := by rw [show (G : Int) + 63 = (g63 : Int) by omega]; exact IntWalk.i64_in _ (by omega)
            have b2 : (g63 : Int).tdiv 64 = (T : Int) := by rw [Int.tdiv_eq_ediv_of_nonneg (by omega)]; omega
            have b3 : IntKind.i64.wrap (T : Int) = (T : Int) := IntWalk.i64_in _ (by omega)
            clear h63 ht hp hG2 hG0
            go_wp2_with fail
            go_region
            all_goals go_wp2_with fail
            all_goals go_ret3
            all_goals exact ⟨rfl, by first | exact H2.out.1 | exact H2.out.1.drew⟩
    · have t8 : ¬ C.l.tmod 8 = 0 := by rw [Int.tmod_eq_emod_of_nonneg (by omega)]; exact h8
      have hp : G = 0 := by rw [HG.out.1]; unfold pgC; rw [if_pos (.inr h8)]
      have ht : T = 0 := by rw [HG.out.2.1, hp]
      have hf : fz = 0 := by rw [HG.out.2.2, if_pos hp]
      subst hp ht hf
      have x8 : IntKind.i64.wrap (C.l.tmod 8) = C.l.tmod 8 := IntWalk.i64_in _ (by rw [Int.tmod_eq_emod_of_nonneg (by omega)]; omega)
      clear HK hz hin h8 HG
      go_wp2_with fail
      go_ret3
      exact ⟨rfl, H2.out.1⟩
end Go.Proofs.YtefmbchebobceaaGreat

/-
  HotMakes: no pages, no device, no heat.
-/
namespace Go.Proofs.YtefmbchebobceaaGreat
open Go.RowKit
set_option linter.unusedVariables false

theorem hlen_nil (w : World) : Calls Tryz.prog 19 #[.pointer none] w fun e w' => e = .returned (.int .i64 0) ∧ w' = w := by
  go_enter Tryz.func19, Tryz.ntmps19
  go_wp2_with fail
  go_ret
  exact ⟨rfl, rfl⟩
theorem hflat_nil (w : World) : Calls Tryz.prog 40 #[.pointer none] w fun e w' => e = .returned (.pointer none) ∧ w' = w := by
  go_enter Tryz.func40, Tryz.ntmps40
  go_wp2_with fail
  go_ret
  exact ⟨rfl, rfl⟩
theorem hhas_nil (g : Int) (w : World) : Calls Tryz.prog 76 #[.pointer none, .int .i64 g] w fun e w' => e = .returned (.bool false) ∧ w' = w := by
  go_enter Tryz.func76, Tryz.ntmps76
  by_cases h : 0 ≤ g
  · have h0 : decide (0 ≤ g) = true := decide_eq_true h
    go_wp2_with fail
    first
      | (refine (hlen_nil _).mono ?_
         rintro e w2 ⟨rfl, rfl⟩
         have h1 : ¬ g < 0 := by omega
         go_wp2_with fail)
      | skip
    go_ret
    exact ⟨by first | rfl | (simp; omega), rfl⟩
  · have h0 : decide (0 ≤ g) = false := decide_eq_false h
    have h1 : g < 0 := by omega
    go_wp2_with fail
    go_ret
    exact ⟨rfl, rfl⟩
theorem hheat_nil (g : Int) (w : World) : Calls Tryz.prog 34 #[.pointer none, .int .i64 g] w fun e w' => e = .returned (.int .i64 0) ∧ w' = w := by
  go_enter Tryz.func34, Tryz.ntmps34
  go_wp2_with fail
  refine (hhas_nil g _).mono ?_
  rintro e w2 ⟨rfl, rfl⟩
  go_wp2_with fail
  go_ret
  exact ⟨rfl, rfl⟩
theorem hmoved_nil (g : Int) (w : World) : Calls Tryz.prog 35 #[.pointer none, .int .i64 g] w fun e w' => e = .returned (.int .i64 0) ∧ w' = w := by
  go_enter Tryz.func35, Tryz.ntmps35
  go_wp2_with fail
  refine (hhas_nil g _).mono ?_
  rintro e w2 ⟨rfl, rfl⟩
  go_wp2_with fail
  go_ret
  exact ⟨rfl, rfl⟩
theorem hframe_nil (g : Int) (w : World) : Calls Tryz.prog 32 #[.pointer none, .int .i64 g] w fun e w' => e = .returned (.tuple #[.int .i64 0, .int .i64 1]) ∧ w' = w := by
  go_enter Tryz.func32, Tryz.ntmps32
  go_wp2_with fail
  go_ret2
  exact ⟨rfl, rfl⟩
theorem hopen_none (lim : Int) (w : World) : Calls Tryz.prog 17 #[.pointer none, .int .i64 lim] w fun e w' => e = .returned (.tuple #[.pointer none, .int .i64 1]) ∧ w' = w := by
  go_enter Tryz.func17, Tryz.ntmps17
  go_wp2_with fail
  go_ret2
  exact ⟨rfl, rfl⟩
theorem hopen_cold {b : Nat} (lim : Int) (hl : lim < 1) (w : World) : Calls Tryz.prog 17 #[.pointer (some ⟨b, 0, none⟩), .int .i64 lim] w fun e w' => e = .returned (.tuple #[.pointer none, .int .i64 2]) ∧ w' = w := by
  go_enter Tryz.func17, Tryz.ntmps17
  go_wp2_with fail
  go_ret2
  exact ⟨rfl, rfl⟩
theorem hmake_none (C : CfgZ) (w : World) : Calls Tryz.prog 14 #[.pointer none, cfgV C] w fun e w' => e = .returned (.int .i64 1) ∧ Gr [] w w' := by
  have H := Lib.hid ((Gr.refl [] w).alloc (Obj.cells #[.int .i64 C.r, .int .i64 C.l, .int .i64 C.s, .int .i64 C.psi, .int .u64 (C.key : Int)] 39))
  unfold cfgV
  go_enter Tryz.func14, Tryz.ntmps14
  go_wp2_with fail
  go_ret
  exact ⟨rfl, H.out⟩
theorem hfind_nil (g k : Int) (w : World) : Calls Tryz.prog 65 #[.pointer none, .int .i64 g, .int .i64 k] w fun e w' => e = .returned (.tuple #[.int .i64 0, .int .i64 1]) ∧ w' = w := by
  go_enter Tryz.func65, Tryz.ntmps65
  go_wp2_with fail
  go_ret2
  exact ⟨rfl, rfl⟩
theorem hread_nil (g k : Int) (w : World) : Calls Tryz.prog 24 #[.pointer none, .int .i64 g, .int .i64 k] w fun e w' => e = .returned (.tuple #[.string ⟨#[]⟩, .int .i64 1]) ∧ w' = w := by
  go_enter Tryz.func24, Tryz.ntmps24
  go_wp2_with fail
  refine (hfind_nil g k _).mono ?_
  rintro e w2 ⟨rfl, rfl⟩
  go_wp2_with fail
  go_ret2
  exact ⟨rfl, rfl⟩
theorem hchange_nil {v : Value} (g k : Int) (w : World) : Calls Tryz.prog 58 #[.pointer none, .int .i64 g, .int .i64 k, v] w fun e w' => e = .returned (.int .i64 1) ∧ w' = w := by
  go_enter Tryz.func58, Tryz.ntmps58
  go_wp2_with fail
  refine (hfind_nil g k _).mono ?_
  rintro e w2 ⟨rfl, rfl⟩
  go_wp2_with fail
  go_ret
  exact ⟨rfl, rfl⟩
theorem hwrite_nil (g k : Int) (s : ByteArray) (w : World) : Calls Tryz.prog 20 #[.pointer none, .int .i64 g, .int .i64 k, .string s] w fun e w' => e = .returned (.int .i64 1) ∧ Gr [] w w' := by
  have gb := ((Gr.refl [] w).alloc (Obj.cells #[.pointer none] 42)).alloc (Obj.cells #[.string s] 9)
  have h1 := (Holds.new w #[.pointer none] 42).alloc (Obj.cells #[.string s] 9)
  have h2 := Holds.new (w.alloc (Obj.cells #[.pointer none] 42)) #[.string s] 9
  have hsz : (w.alloc (Obj.cells #[.pointer none] 42)).heap.size = w.heap.size + 1 := World.size_alloc _ _
  rw [hsz] at h2
  have c0 := h1.cell 0
  have c1 := h2.cell 0
  have HG := Lib.hid gb
  clear gb h1 h2 hsz
  go_enter Tryz.func20, Tryz.ntmps20
  go_upto_region 1 with fail
  generalize ((w.alloc (Obj.cells #[.pointer none] 42)).alloc (Obj.cells #[.string s] 9)) = w1 at *
  go_wp2_with fail
  refine (hchange_nil g k _).mono ?_
  rintro e w2 ⟨rfl, rfl⟩
  go_wp2_with fail
  go_ret
  exact ⟨rfl, HG.out⟩
theorem hww_nil (g k m v : Int) (w : World) : Calls Tryz.prog 23 #[.pointer none, .int .i64 g, .int .i64 k, .int .i64 m, .int .u64 v] w fun e w' => e = .returned (.int .i64 1) ∧ Gr [] w w' := by
  have gb := (((Gr.refl [] w).alloc (Obj.cells #[.pointer none] 42)).alloc (Obj.cells #[.int .i64 m] 3)).alloc (Obj.cells #[.int .u64 v] 22)
  have h1 := ((Holds.new w #[.pointer none] 42).alloc (Obj.cells #[.int .i64 m] 3)).alloc (Obj.cells #[.int .u64 v] 22)
  have c0 := h1.cell 0
  have HG := Lib.hid gb
  clear gb h1
  go_enter Tryz.func23, Tryz.ntmps23
  go_upto_region 1 with fail
  generalize (((w.alloc (Obj.cells #[.pointer none] 42)).alloc (Obj.cells #[.int .i64 m] 3)).alloc (Obj.cells #[.int .u64 v] 22)) = w1 at *
  go_wp2_with fail
  refine (hchange_nil g k _).mono ?_
  rintro e w2 ⟨rfl, rfl⟩
  go_wp2_with fail
  go_ret
  exact ⟨rfl, HG.out⟩
end Go.Proofs.YtefmbchebobceaaGreat

/-
  Layer 9: Open of a device that wasn't made a list of.
-/
namespace Go.Proofs.YtefmbchebobceaaGreat
open Go.RowKit
set_option linter.unusedVariables false

section
variable {w : World} {a : DevA} {D : DevS} {S : ByteArray}
set_option maxRecDepth 100000 in
set_option maxHeartbeats 16000000 in
theorem fopen_form (h : DevIs w a D) (hc : D.off = false) (hS : S = ⟨(getT D 0).toArray⟩) (hf : headS (parZ S.data.toList) ≠ S ∨ checkC (parZ S.data.toList) (D.n : Int) ≠ 0) :
    Calls Tryz.prog 46 #[.pointer (some ⟨a.bd, 0, none⟩)] w fun e w' => e = .returned (.tuple #[.pointer none, .int .i64 4]) ∧ Gr [] w w' := by
  have hSz : S.size = 64 := by rw [hS]; exact line_size D 0
  have HGt := Lib.hid (fun W (d : DevIs W a D) => show Calls Tryz.prog 93 #[.pointer (some ⟨a.bd, 0, none⟩), .int .i64 0] W (fun e w' => e = .returned (.tuple #[.string S, .int .i64 0]) ∧ Gr [] W w') from by
    rw [hS]
    exact get_yes a D 0 W d (by have := h.ok.lo; omega) hc)
  have hwf := parZ_wf S.data.toList
  have HPr := Lib.hid (fun W => parse_any S hSz W)
  obtain ⟨C, hC⟩ : ∃ C, C = parZ S.data.toList := ⟨_, rfl⟩
  rw [← hC] at hwf HPr hf
  have HHd := Lib.hid (fun W => show Calls Tryz.prog 92 #[.agg #[.int .i64 C.r, .int .i64 C.l, .int .i64 C.s, .int .i64 C.psi, .int .u64 (C.key : Int)]] W (fun e w' => e = .returned (.string (headS C)) ∧ Gr [] W w') from head_any C hwf W)
  have HCk := Lib.hid (fun W => show Calls Tryz.prog 87 #[.agg #[.int .i64 C.r, .int .i64 C.l, .int .i64 C.s, .int .i64 C.psi, .int .u64 (C.key : Int)], .int .i64 (D.n : Int)] W _ from ccheck_any C hwf.wf (D.n : Int) W)
  obtain ⟨T, hT⟩ : ∃ T, T = headS C := ⟨_, rfl⟩
  obtain ⟨ck, hck⟩ : ∃ ck, ck = checkC C (D.n : Int) := ⟨_, rfl⟩
  rw [← hT] at hf HHd
  rw [← hck] at hf HCk
  have HD := Lib.hid h
  clear h hc hS hSz hC hT hck
  unfold cfgV at HPr
  go_enter Tryz.func46, Tryz.ntmps46
  go_wp2_with fail
  with_reducible refine (HGt.out _ HD.out).mono ?_
  rintro e w2 ⟨rfl, g2⟩
  have H2 := Lib.hid (And.intro (HD.out.gr0 g2) g2)
  clear g2
  go_wp2_with fail
  with_reducible refine (HPr.out _).mono ?_
  rintro e w3 ⟨rfl, g3⟩
  have H3 := Lib.hid (And.intro (H2.out.1.gr0 g3) (H2.out.2.trans g3))
  clear g3 H2
  go_upto_region 5 with fail
  have hn := Holds.new w3 #[.int .i64 C.r, .int .i64 C.l, .int .i64 C.s, .int .i64 C.psi, .int .u64 (C.key : Int)] 39
  have ga := (Gr.refl [] w3).alloc (Obj.cells #[.int .i64 C.r, .int .i64 C.l, .int .i64 C.s, .int .i64 C.psi, .int .u64 (C.key : Int)] 39)
  have H4 := Lib.hid (And.intro hn (And.intro (H3.out.1.gr0 ga) (H3.out.2.trans ga)))
  clear hn ga H3
  generalize w3.alloc (Obj.cells #[.int .i64 C.r, .int .i64 C.l, .int .i64 C.s, .int .i64 C.psi, .int .u64 (C.key : Int)] 39) = w4 at *
  obtain ⟨cb, hcb⟩ : ∃ cb, w3.heap.size = cb := ⟨_, rfl⟩
  rw [hcb] at H4 ⊢
  clear hcb
  have k0 := kp_cell (H4.out.1.cell 0)
  have k1 := kp_cell (H4.out.1.cell 1)
  have k2 := kp_cell (H4.out.1.cell 2)
  have k3 := kp_cell (H4.out.1.cell 3)
  have k4 := kp_cell (H4.out.1.cell 4)
  have hne := kp_ne w4
  by_cases hTS : T = S
  · subst hTS
    have hck0 : (ck == 0) = false := by
      rcases hf with hf | hf
      · exact absurd rfl hf
      · simpa using hf
    clear hf
    refine wp_region_kp (by kernel_rfl) (by kernel_rfl) ?_
    repeat (go_big_quiet_step ((rename_i x; first
      | with_reducible exact kp_call x (linesK (H4.out.2.1.kp x.h))
      | with_reducible exact kp_call x ((HHd.out _).mono fun _ _ q => ⟨q.1, q.2.below0⟩)
      | with_reducible exact kp_call x ((HCk.out _).mono fun _ _ q => ⟨q.1, q.2.below0⟩))))
    with_reducible refine wpQuiet_nil ?_
    rintro _ ⟨y, rfl⟩
    have gy : Gr [] w4 y.w := Gr.ofBelow (cs := []) y.h
    have H5 := Lib.hid (H4.out.2.2.trans gy)
    clear gy H4 k0 k1 k2 k3 k4 hne
    generalize y.w = w5 at *
    clear y
    go_wp2_with fail
    exact bodyPost_ret (v := .tuple #[.pointer none, .int .i64 4]) (by simp [results, Tryz.results46, go_sem]) rfl ⟨rfl, H5.out⟩
  · have hb := bs_beq_false hTS
    clear hf hTS
    refine wp_region_kp (by kernel_rfl) (by kernel_rfl) ?_
    repeat (go_big_quiet_step ((rename_i x; first
      | with_reducible exact kp_call x (linesK (H4.out.2.1.kp x.h))
      | with_reducible exact kp_call x ((HHd.out _).mono fun _ _ q => ⟨q.1, q.2.below0⟩)
      | with_reducible exact kp_call x ((HCk.out _).mono fun _ _ q => ⟨q.1, q.2.below0⟩))))
    with_reducible refine wpQuiet_nil ?_
    rintro _ ⟨y, rfl⟩
    have gy : Gr [] w4 y.w := Gr.ofBelow (cs := []) y.h
    have H5 := Lib.hid (H4.out.2.2.trans gy)
    clear gy H4 k0 k1 k2 k3 k4 hne
    generalize y.w = w5 at *
    clear y
    go_wp2_with fail
    exact bodyPost_ret (v := .tuple #[.pointer none, .int .i64 4]) (by simp [results, Tryz.results46, go_sem]) rfl ⟨rfl, H5.out⟩
end
end Go.Proofs.YtefmbchebobceaaGreat

/-
  FlatMakes: what is asked of a nil list; Make where it may not be.
-/
namespace Go.Proofs.YtefmbchebobceaaGreat
open Go.RowKit
set_option linter.unusedVariables false

set_option maxRecDepth 100000 in
set_option maxHeartbeats 8000000 in
theorem fmake_err {w : World} {a : DevA} {D : DevS} (h : DevIs w a D) (C : CfgZ) (hC : wfC C) (he : checkC C (D.n : Int) ≠ 0) :
    Calls Tryz.prog 45 #[.pointer (some ⟨a.bd, 0, none⟩), cfgV C] w fun e w' => e = .returned (.int .i64 (checkC C (D.n : Int))) ∧ Gr [] w w' := by
  have HCk := Lib.hid (fun W => show Calls Tryz.prog 87 #[.agg #[.int .i64 C.r, .int .i64 C.l, .int .i64 C.s, .int .i64 C.psi, .int .u64 (C.key : Int)], .int .i64 (D.n : Int)] W _ from ccheck_any C hC (D.n : Int) W)
  obtain ⟨ck, hck⟩ : ∃ ck, ck = checkC C (D.n : Int) := ⟨_, rfl⟩
  rw [← hck] at he HCk ⊢
  have hb : (ck == 0) = false := by simpa using he
  have HG := Lib.hid ((Gr.refl [] w).alloc (Obj.cells #[.int .i64 C.r, .int .i64 C.l, .int .i64 C.s, .int .i64 C.psi, .int .u64 (C.key : Int)] 39))
  have hh := Holds.new w #[.int .i64 C.r, .int .i64 C.l, .int .i64 C.s, .int .i64 C.psi, .int .u64 (C.key : Int)] 39
  have HD := Lib.hid (h.gr0 HG.out)
  clear h hck he hC
  unfold cfgV
  go_enter Tryz.func45, Tryz.ntmps45
  go_upto_region 1 with fail
  generalize (w.alloc (Obj.cells #[.int .i64 C.r, .int .i64 C.l, .int .i64 C.s, .int .i64 C.psi, .int .u64 (C.key : Int)] 39)) = w1 at *
  obtain ⟨cb, hcb⟩ : ∃ cb, w.heap.size = cb := ⟨_, rfl⟩
  rw [hcb] at hh ⊢
  clear hcb
  go_upto_region 3 with fail
  have k0 := kp_cell (hh.cell 0)
  have k1 := kp_cell (hh.cell 1)
  have k2 := kp_cell (hh.cell 2)
  have k3 := kp_cell (hh.cell 3)
  have k4 := kp_cell (hh.cell 4)
  have hne := kp_ne w1
  clear hh
  first
    | (refine wp_region_kp (by kernel_rfl) (by kernel_rfl) ?_
       repeat (go_big_quiet_step ((rename_i x; first
         | with_reducible exact kp_call x (linesK (HD.out.kp x.h))
         | with_reducible exact kp_call x ((HCk.out _).mono fun _ _ q => ⟨q.1, q.2.below0⟩))))
       with_reducible refine wpQuiet_nil ?_)
  rintro _ ⟨y, rfl⟩
  have gy : Gr [] w1 y.w := Gr.ofBelow (cs := []) y.h
  have H5 := Lib.hid (HG.out.trans gy)
  clear gy HG HD k0 k1 k2 k3 k4 hne
  generalize y.w = w5 at *
  clear y
  go_wp2_with fail
  go_ret
  exact ⟨rfl, H5.out⟩
end Go.Proofs.YtefmbchebobceaaGreat
