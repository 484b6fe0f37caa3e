/-
  SlAa: Base, SqR, SqV.
-/
import Derived.Test.YtifekejcbhllpaaGreatSkAa
import Derived.Test.YtifekejcbhllpaaGreatSkAb
import Derived.Test.YtifekejcbhllpaaGreatSkAc
import Derived.Test.YtifekejcbhllpaaGreatSkAd
import Derived.Test.YtifekejcbhllpaaGreatSkAe
import Derived.Test.YtifekejcbhllpaaGreatSkAf
import Derived.Test.YtifekejcbhllpaaGreatSkAg
import Derived.Test.YtifekejcbhllpaaGreatSkAh
import Derived.Test.YtifekejcbhllpaaGreatSkAi
import Derived.Test.YtifekejcbhllpaaGreatSkAj
import Derived.Test.YtifekejcbhllpaaGreatSkAk
import Derived.Test.YtifekejcbhllpaaGreatSkAl
import Derived.Test.YtifekejcbhllpaaGreatSkAm
import Derived.Test.YtifekejcbhllpaaGreatSkAn
import Derived.Test.YtifekejcbhllpaaGreatSkAo
import Derived.Test.YtifekejcbhllpaaGreatSkAp
import Derived.Test.YtifekejcbhllpaaGreatSkAq
import Derived.Test.YtifekejcbhllpaaGreatSkAr
import Derived.Test.YtifekejcbhllpaaGreatSkAs
import Derived.Test.YtifekejcbhllpaaGreatSkAt
import Derived.Test.YtifekejcbhllpaaGreatSkAu
import Derived.Test.YtifekejcbhllpaaGreatSkAv
import Derived.Test.YtifekejcbhllpaaGreatSkAw
import Derived.Test.YtifekejcbhllpaaGreatSkAx
import Derived.Test.YtifekejcbhllpaaGreatSkAy
import Derived.Test.YtifekejcbhllpaaGreatSkAz
import Derived.Test.YtifekejcbhllpaaGreatSkBa
import Derived.Test.YtifekejcbhllpaaGreatSkBb
import Derived.Test.YtifekejcbhllpaaGreatSkBc
import Derived.Test.YtifekejcbhllpaaGreatSkBd
import Derived.Test.YtifekejcbhllpaaGreatSkBe
import Derived.Test.YtifekejcbhllpaaGreatSkBf
import Derived.Test.YtifekejcbhllpaaGreatSkBg
import Derived.Test.YtifekejcbhllpaaGreatSkBh
import Derived.Test.YtifekejcbhllpaaGreatSkBi
import Derived.Test.YtifekejcbhllpaaGreatSkBj
import Derived.Test.YtifekejcbhllpaaGreatSkBk
import Derived.Test.YtifekejcbhllpaaGreatSkBl
import Derived.Test.YtifekejcbhllpaaGreatSkBm
import Derived.Test.YtifekejcbhllpaaGreatSkBn
import Derived.Test.YtifekejcbhllpaaGreatRows
import Derived.WalkKit
import Derived.Handy
import Derived.Lib.Hide
import Derived.Deep.QuietTactic
import Derived.BigQuiet
import Derived.KernelRfl
import Derived.Maps.RangeWalk
import Derived.Maps.OwnSet
import Derived.StillTailTactics
import Derived.Deep.LoopGhost
import Derived.Laws.AppendOwn
import Derived.Shelf.SlIterI.Nil
import Derived.Shelf.SortM.Plain
import Derived.Shelf.SortM.SortNone
import Derived.Ground.GgzProg
import Derived.Ground.SlgmProg
import Derived.Lib.AppendStr
import Derived.Shelf.Strings.Repeat
import Derived.Ground.NamesProg
import Derived.Lib.Agree
import Derived.Deep.MidRow
import Derived.Deep.RegionHeld3
import Derived.Shelf.Strings.BuilderK
import Derived.IntWalk
import Derived.Deep.CutBlock
import Derived.ProofKit
import Derived.OpenShut
import Derived.SizedLaws
import Derived.ChangeSlices
import Derived.Deep.Slices
import Derived.Deep.Grids
import Derived.Deep.RegionLaw
import Derived.Deep.AppendLies
import Derived.BigRegion
import Derived.WideKeyArr

set_option linter.unusedVariables false

/-
  What many texts share: worlds below a bound; max with 0; small arithmetic.
-/
namespace Go.Proofs.YtifekejcbhllpaaGreat
open Go.RowKit

def mx (y : Int) : Int := max 0 y
theorem mx_nonneg (y : Int) : 0 ≤ mx y := by unfold mx; omega
theorem max0 (P : Program) (ts : Array TypeId) (t : TypeId) (y : Int) (w : World) : (Builtin.max_ ts t #[.int .i64 0, .int .i64 y]).run P w = .ok (.int .i64 (mx y)) w := by
  rw [run_max_int2]
  have : (if y > 0 then y else 0) = mx y := by unfold mx; split <;> omega
  rw [this]
end Go.Proofs.YtifekejcbhllpaaGreat

/-
  Layer 11: Read.
-/
namespace Go.Proofs.YtifekejcbhllpaaGreat
open Go.RowKit
set_option linter.unusedVariables false

section
variable {w w' : World} {X : HtA} {A : FlA} {a : DevA} {C : CfgZ} {gd cm : Bool} {N N' lim sb : Nat} {B : ByteArray}
theorem spread_out (h : HSp C X A a gd cm lim sb B N w) (k m : Int) (ho : errW B.size k m = 3) : Calls Tryz.prog 12 #[.pointer (some ⟨sb, 0, none⟩), .int .i64 k, .int .i64 m] w fun e w' => e = .returned (.tuple #[.string ⟨#[]⟩, .int .i64 3]) ∧ w' = w := by
  have HW := Lib.hid (within_any h k m)
  rw [ho] at HW
  clear h ho
  go_enter Tryz.func12, Tryz.ntmps12
  go_wp2_with fail
  refine HW.out.mono ?_
  rintro e w2 ⟨rfl, rfl⟩
  go_wp2_with fail
  go_ret2
  exact ⟨rfl, rfl⟩
end
end Go.Proofs.YtifekejcbhllpaaGreat

/-
  SpaceReads' walk.
-/
namespace Go.Proofs.YtifekejcbhllpaaGreat
open Go.RowKit
set_option linter.unusedVariables false

theorem within_nil (k m : Int) (w : World) : Calls Tryz.prog 36 #[.pointer none, .int .i64 k, .int .i64 m] w fun e w' => e = .returned (.int .i64 1) ∧ w' = w := by
  go_enter Tryz.func36, Tryz.ntmps36
  go_wp2_with fail
  go_ret
  exact ⟨rfl, rfl⟩
theorem spread_nil (k m : Int) (w : World) : Calls Tryz.prog 12 #[.pointer none, .int .i64 k, .int .i64 m] w fun e w' => e = .returned (.tuple #[.string ⟨#[]⟩, .int .i64 1]) ∧ w' = w := by
  go_enter Tryz.func12, Tryz.ntmps12
  go_wp2_with fail
  refine (within_nil _ _ _).mono ?_
  rintro e w2 ⟨rfl, rfl⟩
  go_wp2_with fail
  go_ret2
  exact ⟨rfl, rfl⟩
theorem spwrite_nil (k : Int) (b : ByteArray) (w : World) : Calls Tryz.prog 11 #[.pointer none, .int .i64 k, .string b] w fun e w' => e = .returned (.int .i64 1) ∧ w' = w := by
  go_enter Tryz.func11, Tryz.ntmps11
  go_wp2_with fail
  refine (within_nil _ _ _).mono ?_
  rintro e w2 ⟨rfl, rfl⟩
  go_wp2_with fail
  go_ret
  exact ⟨rfl, rfl⟩
theorem word_nil (k : Int) (w : World) : Calls Tryz.prog 40 #[.pointer none, .int .i64 k] w fun e w' => e = .returned (.int .i64 1) ∧ w' = w := by
  go_enter Tryz.func40, Tryz.ntmps40
  go_wp2_with fail
  refine (within_nil _ _ _).mono ?_
  rintro e w2 ⟨rfl, rfl⟩
  go_wp2_with fail
  go_ret
  exact ⟨rfl, rfl⟩
theorem spword_nil (k : Int) (w : World) : Calls Tryz.prog 14 #[.pointer none, .int .i64 k] w fun e w' => e = .returned (.tuple #[.int .u64 0, .int .i64 1]) ∧ w' = w := by
  go_enter Tryz.func14, Tryz.ntmps14
  go_wp2_with fail
  refine (word_nil _ _).mono ?_
  rintro e w2 ⟨rfl, rfl⟩
  go_wp2_with fail
  go_ret2
  exact ⟨rfl, rfl⟩
theorem spww_nil (k : Int) (v : Int) (w : World) : Calls Tryz.prog 13 #[.pointer none, .int .i64 k, .int .u64 v] w fun e w' => e = .returned (.int .i64 1) ∧ w' = w := by
  go_enter Tryz.func13, Tryz.ntmps13
  go_wp2_with fail
  refine (word_nil _ _).mono ?_
  rintro e w2 ⟨rfl, rfl⟩
  go_wp2_with fail
  go_ret
  exact ⟨rfl, rfl⟩
theorem spsize_nil (w : World) : Calls Tryz.prog 10 #[.pointer none] w fun e w' => e = .returned (.int .i64 0) ∧ w' = w := by
  go_enter Tryz.func10, Tryz.ntmps10
  go_wp2_with fail
  go_ret
  exact ⟨rfl, rfl⟩
theorem spnew_nil (w : World) : Calls Tryz.prog 22 #[.pointer none] w fun e w' => e = .returned (.tuple #[.pointer none, .int .i64 1]) ∧ w' = w := by
  go_enter Tryz.func22, Tryz.ntmps22
  go_wp2_with fail
  go_ret2
  exact ⟨rfl, rfl⟩
set_option maxRecDepth 100000 in
set_option maxHeartbeats 40000000 in
theorem sreads_law (b : ByteArray) (p q : Int) {w : World} (hp : -9223372036854775808 ≤ p ∧ p ≤ 9223372036854775807) (hq : -9223372036854775808 ≤ q ∧ q ≤ 9223372036854775807) (hb : b.size ≤ 4611686018427387904) :
    Calls Tryz.prog 4 #[.string b, .int .i64 p, .int .i64 q] w fun e w' => e = .returned (.bool true) ∧ Gr [] w w' := by
  have HF := Lib.hid (fresh11 b.size (by omega) w)
  obtain ⟨m4, hm4⟩ : ∃ m, m = min b.size 300 := ⟨_, rfl⟩
  have hmn := minIsL Tryz.prog b.size m4 300 300 rfl hm4
  have hm4a : m4 ≤ b.size := by omega
  have HM4 := Lib.hid (show m4 ≤ 300 by omega)
  have HPQ := Lib.hid (And.intro hp hq)
  have y0 : IntKind.u64.wrap (b.size : Int) = (b.size : Int) := IntWalk.u64_in _ (by omega)
  obtain ⟨C, hC⟩ : ∃ C, C = spC b.size := ⟨_, rfl⟩
  rw [← hC] at HF
  clear hm4 hp hq hC
  go_enter Tryz.func4, Tryz.ntmps4
  go_wp2_with fail
  refine HF.out.mono ?_
  rintro e w2 ⟨a, X, A, sb, rfl, h2, n2, g2⟩
  have H2 := Lib.hid (And.intro h2 (And.intro n2 g2))
  clear h2 n2 g2 HF y0
  have im : (m4 : Int) ≤ (b.size : Int) := by omega
  have im0 : (0 : Int) ≤ (m4 : Int) := by omega
  go_upto_region 3 with fail
  obtain ⟨T, hT⟩ : ∃ T, T = b.extract 0 m4 := ⟨_, rfl⟩
  have hTs : T.size = m4 := by rw [hT]; exact (ext_size (by omega) (by omega)).trans (by omega)
  try rw [← hT]
  clear hmn hm4a im im0 hT hb
  go_wp2_with fail
  refine (wakes11 _).mono ?_
  rintro e w3 ⟨rfl, g3⟩
  have H3 := Lib.hid (And.intro (H2.out.1.gr0 g3) (And.intro H2.out.2.1 (H2.out.2.2.trans g3)))
  clear g3 H2
  have HW := Lib.hid (H3.out.1.write 0 T (by rw [hTs, zBy_size]; have := HM4.out; omega) (by rw [hTs]; have := HM4.out; omega))
  go_wp2_with fail
  refine HW.out.mono ?_
  rintro e w4 ⟨rfl, h4, g4⟩
  have H4 := Lib.hid (And.intro h4 (And.intro H3.out.2.1 (H3.out.2.2.nextN g4 fun x hx => .inr (H3.out.2.1 x (List.mem_cons_of_mem _ hx)))))
  clear h4 g4 H3 HW
  obtain ⟨U, hU⟩ : ∃ U, U = splB (zBy 1536) 0 T := ⟨_, rfl⟩
  have hUs : U.size = 1536 := by rw [hU, splB_size (by rw [hTs, zBy_size]; have := HM4.out; omega), zBy_size]
  have hMid : U.extract 0 m4 = T := by
    have h := splB_mid (B := zBy 1536) (b := T) (k := 0) (by rw [hTs, zBy_size]; have := HM4.out; omega)
    rw [hTs, ← hU, Nat.zero_add] at h
    exact h
  rw [← hU] at H4
  have HSz := Lib.hid (spsize_any H4.out.1)
  have HR1 := Lib.hid (H4.out.1.all)
  have HSz2 := Lib.hid (fun W (g : Gr [] w4 W) => spsize_any (H4.out.1.gr0 g))
  rw [hUs] at HSz HR1 HSz2
  clear hU
  have lm : (m4 : Int) ≤ 1536 := by have := HM4.out; omega
  have lm0 : (0 : Int) ≤ (m4 : Int) := by omega
  have lm2 : m4 ≤ 1536 := by have := HM4.out; omega
  go_wp2_with fail
  refine HSz.out.mono ?_
  rintro e w5 ⟨rfl, rfl⟩
  go_wp2_with fail
  refine HR1.out.mono ?_
  rintro e w6 ⟨rfl, g6⟩
  have H6 := Lib.hid (And.intro (H4.out.1.gr0 g6) (H4.out.2.2.trans g6))
  have HSz3 := Lib.hid (HSz2.out _ g6)
  clear g6 HSz HSz2 HR1 H4
  go_wp2_with fail
  refine HSz3.out.mono ?_
  rintro e w7 ⟨rfl, rfl⟩
  clear HSz3
  have hmx := max0 Tryz.prog
  have h0 := mx_nonneg p
  have h1 := mx_nonneg q
  have t1 : (mx p).tmod 1600 = mx p % 1600 := Int.tmod_eq_emod_of_nonneg h0
  have t2 : (mx q).tmod 400 = mx q % 400 := Int.tmod_eq_emod_of_nonneg h1
  obtain ⟨p2, hp2⟩ : ∃ x, x = mx p % 1600 := ⟨_, rfl⟩
  obtain ⟨q2, hq2⟩ : ∃ x, x = mx q % 400 := ⟨_, rfl⟩
  rw [← hp2] at t1
  rw [← hq2] at t2
  have b1 : IntKind.i64.wrap p2 = p2 := IntWalk.i64_in _ (by omega)
  have b2 : IntKind.i64.wrap q2 = q2 := IntWalk.i64_in _ (by omega)
  have HPQ2 := Lib.hid (show -9223372036854775808 ≤ p2 ∧ p2 ≤ 9223372036854775807 ∧ -9223372036854775808 ≤ q2 ∧ q2 ≤ 9223372036854775807 by omega)
  clear hp2 hq2
  go_upto_region 8 with fail
  go_upto_region 9 with fail
  have hq4 := (Holds.new w7 #[.int .i64 p, .int .i64 q, .int .i64 p2, .int .i64 q2] 51)
  have ga := (Gr.refl [] w7).alloc (Obj.cells #[.int .i64 p, .int .i64 q, .int .i64 p2, .int .i64 q2] 51)
  have H8 := Lib.hid (And.intro hq4 (And.intro (H6.out.1.gr0 ga) (H6.out.2.trans ga)))
  clear hq4 ga hmx h0 h1 t1 t2 b1 b2 H6 lm lm0 lm2 hMid
  generalize w7.alloc (Obj.cells #[.int .i64 p, .int .i64 q, .int .i64 p2, .int .i64 q2] 51) = w8 at *
  obtain ⟨qb, hqb⟩ : ∃ b, w7.heap.size = b := ⟨_, rfl⟩
  rw [hqb] at H8 ⊢
  clear hqb
  go_loopw [86] (fun z wr => ∃ i : Nat, i ≤ 2 ∧ z = .int .i64 (i : Int) ∧ Hid (Holds wr qb #[.int .i64 p, .int .i64 q, .int .i64 p2, .int .i64 q2] 51 ∧ HSp C X A a true true 3 sb U (300000 + 42000 * T.size) wr ∧ Gr [] w wr)) (fun z _ => 2 - (intOf z).toNat)
  case atStart => exact ⟨0, by omega, rfl, H8⟩
  case round =>
    clear H8
    obtain ⟨i, hi, rfl, HH⟩ := hrel
    by_cases hi2 : i < 2
    · as_aux_lemma =>
        have HI := Lib.hid hi2
        obtain ⟨z0, z1, hz0, hz1, hb0, hb1⟩ : ∃ z0 z1 : Int, wr.cell? ⟨qb, i * 2, none⟩ = some (.int .i64 z0) ∧ wr.cell? ⟨qb, i * 2 + 1, none⟩ = some (.int .i64 z1) ∧ (-9223372036854775808 ≤ z0 ∧ z0 ≤ 9223372036854775807) ∧ (-9223372036854775808 ≤ z1 ∧ z1 ≤ 9223372036854775807) := by
          have c0 := HH.out.1.cell 0
          have c1 := HH.out.1.cell 1
          have c2 := HH.out.1.cell 2
          have c3 := HH.out.1.cell 3
          rcases (show i = 0 ∨ i = 1 by omega) with rfl | rfl
          · exact ⟨p, q, c0, c1, HPQ.out.1, HPQ.out.2⟩
          · exact ⟨p2, q2, c2, c3, ⟨HPQ2.out.1, HPQ2.out.2.1⟩, ⟨HPQ2.out.2.2.1, HPQ2.out.2.2.2⟩⟩
        have ii : (i : Int) < 2 := by omega
        have ii0 : (0 : Int) ≤ (i : Int) := by omega
        have hwi : IntKind.i64.wrap ((i : Int) + 1) = (i : Int) + 1 := IntWalk.i64_in _ (by omega)
        have hh := Holds.new wr #[.int .i64 z0, .int .i64 z1] 51
        have ga := (Gr.refl [] wr).alloc (Obj.cells #[.int .i64 z0, .int .i64 z1] 51)
        have H9 := Lib.hid (And.intro hh (And.intro (HH.out.1.gr0 ga) (And.intro (HH.out.2.1.gr0 ga) (HH.out.2.2.trans ga))))
        clear hh ga hi2 hi
        go_upto_region 11 with fail
        clear hz0 hz1 HH
        generalize wr.alloc (Obj.cells #[.int .i64 z0, .int .i64 z1] 51) = w9 at *
        obtain ⟨yb, hyb⟩ : ∃ b, wr.heap.size = b := ⟨_, rfl⟩
        rw [hyb] at H9 ⊢
        clear hyb
        have c0 : w9.cell? ⟨yb, 0, none⟩ = some (.int .i64 z0) := H9.out.1.cell 0
        have c1 : w9.cell? ⟨yb, 1, none⟩ = some (.int .i64 z1) := H9.out.1.cell 1
        by_cases ho : z0 < 0 ∨ z1 < 0 ∨ 1536 < z1 ∨ 1536 - z1 < z0
        · have HR := Lib.hid (spread_out H9.out.2.2.1 z0 z1 (by rw [hUs]; exact if_pos ho))
          have HO := Lib.hid ho
          go_wp2_with fail
          refine HR.out.mono ?_
          rintro e w10 ⟨rfl, rfl⟩
          clear HR
          go_upto_region 12 with fail
          go_cut [123] (fun c wz => c = .bool true ∧ wz = w10)
          case first =>
            by_cases d1 : z0 < 0
            · go_wp2_with fail
              go_meet
              exact ⟨rfl, rfl⟩
            by_cases d2 : z1 < 0
            · go_wp2_with fail
              go_meet
              exact ⟨rfl, rfl⟩
            by_cases d3 : 1536 < z1
            · go_wp2_with fail
              go_meet
              exact ⟨rfl, rfl⟩
            have d4 : 1536 - z1 < z0 := by have := HO.out; omega
            have u1 : IntKind.i64.wrap ((1536 : Int) - z1) = 1536 - z1 := IntWalk.i64_in _ (by omega)
            go_wp2_with fail
            go_meet
            exact ⟨rfl, rfl⟩
          case rest =>
            obtain ⟨rfl, hw⟩ := hcut
            rw [← hw] at H9
            clear hw
            go_wp2_with fail
            go_roundw
            case rel => exact ⟨i + 1, by have := HI.out; omega, by go_num, Lib.hid ⟨H9.out.2.1, H9.out.2.2⟩⟩
            case measure => have := HI.out; simp [intOf]; omega
        · have d1 : ¬ z0 < 0 := by omega
          have d2 : ¬ z1 < 0 := by omega
          have d3 : ¬ 1536 < z1 := by omega
          have d4 : ¬ 1536 - z1 < z0 := by omega
          have u1 : IntKind.i64.wrap ((1536 : Int) - z1) = 1536 - z1 := IntWalk.i64_in _ (by omega)
          obtain ⟨n0, rfl⟩ : ∃ n : Nat, z0 = (n : Int) := ⟨z0.toNat, by omega⟩
          obtain ⟨n1, rfl⟩ : ∃ n : Nat, z1 = (n : Int) := ⟨z1.toNat, by omega⟩
          obtain ⟨n2, hn2⟩ : ∃ n, n = n0 + n1 := ⟨_, rfl⟩
          have u2 : IntKind.i64.wrap ((n0 : Int) + (n1 : Int)) = (n2 : Int) := by rw [show (n0 : Int) + (n1 : Int) = (n2 : Int) by omega]; exact IntWalk.i64_in _ (by omega)
          have l1 : (n2 : Int) ≤ 1536 := by omega
          have l2 : n2 ≤ 1536 := by omega
          have l3 : (n0 : Int) ≤ (n2 : Int) := by omega
          have l4 : n0 ≤ n2 := by omega
          have l0 : (0 : Int) ≤ (n0 : Int) := by omega
          have e3 : ¬ 1536 < n1 := by omega
          have HR := Lib.hid (spread_in H9.out.2.2.1 n0 n1 (by rw [hUs]; omega))
          rw [← hn2] at HR
          obtain ⟨V1, hV1⟩ : ∃ t, t = U.extract n0 n2 := ⟨_, rfl⟩
          rw [← hV1] at HR
          have hV2 : U.extract n0 n2 = V1 := hV1.symm
          clear hV1 hn2 ho
          go_wp2_with fail
          refine HR.out.mono ?_
          rintro e w10 ⟨rfl, g10⟩
          have H10 := Lib.hid (And.intro (H9.out.1.gr0 g10) (And.intro (H9.out.2.1.gr0 g10) (And.intro (H9.out.2.2.1.gr0 g10) (H9.out.2.2.2.trans g10))))
          have c0 : w10.cell? ⟨yb, 0, none⟩ = some (.int .i64 (n0 : Int)) := H10.out.1.cell 0
          have c1 : w10.cell? ⟨yb, 1, none⟩ = some (.int .i64 (n1 : Int)) := H10.out.1.cell 1
          clear g10 HR H9
          go_wp2_with fail
          go_roundw
          case rel => exact ⟨i + 1, by have := HI.out; omega, by go_num, Lib.hid ⟨H10.out.2.1, H10.out.2.2⟩⟩
          case measure => have := HI.out; simp [intOf]; omega
    · obtain rfl : i = 2 := by omega
      have ii : ¬ ((2 : Int) < 2) := by omega
      clear hi hi2
      have HGG := Lib.hid HH.out.2.2
      go_wp2_with fail
      refine (spread_nil _ _ _).mono ?_
      rintro e w10 ⟨rfl, rfl⟩
      go_wp2_with fail
      refine (spword_nil _ _).mono ?_
      rintro e w11 ⟨rfl, rfl⟩
      go_wp2_with fail
      refine (spnew_nil _).mono ?_
      rintro e w12 ⟨rfl, rfl⟩
      go_wp2_with fail
      refine (spwrite_nil _ _ _).mono ?_
      rintro e w13 ⟨rfl, rfl⟩
      go_wp2_with fail
      refine (spww_nil _ _ _).mono ?_
      rintro e w14 ⟨rfl, rfl⟩
      go_wp2_with fail
      refine (spsize_nil _).mono ?_
      rintro e w15 ⟨rfl, rfl⟩
      go_wp2_with fail
      go_ret
      exact ⟨rfl, HGG.out⟩
theorem i64_wf {x : Int} (h : (Lit.int .i64 x).wf = true) : -9223372036854775808 ≤ x ∧ x ≤ 9223372036854775807 := by
  simp only [Lit.wf, Bool.and_eq_true, decide_eq_true_eq] at h
  exact h
theorem walk_SpaceReads (b : ByteArray) (x y : Int) (hb : b.size ≤ maxLen) (hb2 : b.size ≤ reachBytes) (w1 : (Lit.int .i64 x).wf = true) (w2 : (Lit.int .i64 y).wf = true) (w : World) :
    Calls Tryz.prog 4 #[.string b, .int .i64 x, .int .i64 y] w fun e w' => e = .returned (.bool true) ∧ Below w.heap.size w w' := by
  unfold reachBytes at hb2
  exact (sreads_law b x y (i64_wf w1) (i64_wf w2) (by omega)).mono fun _ _ q => ⟨q.1, q.2.below0⟩
end Go.Proofs.YtifekejcbhllpaaGreat
