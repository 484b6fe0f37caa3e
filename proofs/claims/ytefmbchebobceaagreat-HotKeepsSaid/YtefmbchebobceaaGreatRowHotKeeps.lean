/-
  The statement of HotKeeps, proved: for every input the law returns true, and each argument reads afterwards as before. No condition but the form's own.
-/
import Derived.Test.YtefmbchebobceaaGreatHkAa
import Derived.Test.YtefmbchebobceaaGreatHkAb
import Derived.Test.YtefmbchebobceaaGreatHkAc
import Derived.Test.YtefmbchebobceaaGreatHkAd
import Derived.Test.YtefmbchebobceaaGreatHkAe
import Derived.Test.YtefmbchebobceaaGreatHkAf
import Derived.Test.YtefmbchebobceaaGreatHkAg
import Derived.Test.YtefmbchebobceaaGreatHkAh
import Derived.Test.YtefmbchebobceaaGreatHkAi
import Derived.Test.YtefmbchebobceaaGreatHkAj
import Derived.Test.YtefmbchebobceaaGreatHkAk
import Derived.Test.YtefmbchebobceaaGreatHkAl
import Derived.Test.YtefmbchebobceaaGreatHkAm
import Derived.Test.YtefmbchebobceaaGreatHkAn
import Derived.Test.YtefmbchebobceaaGreatHkAo
import Derived.Test.YtefmbchebobceaaGreatHkAp
import Derived.Test.YtefmbchebobceaaGreatHkAq
import Derived.Test.YtefmbchebobceaaGreatHkAr
import Derived.Test.YtefmbchebobceaaGreatHkAs
import Derived.Test.YtefmbchebobceaaGreatHkAt
import Derived.Test.YtefmbchebobceaaGreatHkAu
import Derived.Test.YtefmbchebobceaaGreatHkAv
import Derived.Test.YtefmbchebobceaaGreatHkAw
import Derived.Test.YtefmbchebobceaaGreatHkAx
import Derived.Test.YtefmbchebobceaaGreatHkAy
import Derived.Test.YtefmbchebobceaaGreatHkAz
import Derived.Test.YtefmbchebobceaaGreatHkBa
import Derived.Test.YtefmbchebobceaaGreatHkBb
import Derived.Test.YtefmbchebobceaaGreatHkBc
import Derived.Test.YtefmbchebobceaaGreatHkBd
import Derived.Test.YtefmbchebobceaaGreatHkBe
import Derived.Test.YtefmbchebobceaaGreatHkBf
import Derived.Test.YtefmbchebobceaaGreatHkBg
import Derived.Test.YtefmbchebobceaaGreatHkBh
import Derived.Test.YtefmbchebobceaaGreatHkBi
import Derived.Test.YtefmbchebobceaaGreatHkBj
import Derived.Test.YtefmbchebobceaaGreatHkBk
import Derived.Test.YtefmbchebobceaaGreatHpAa
import Derived.Test.YtefmbchebobceaaGreatHpAb
import Derived.Test.YtefmbchebobceaaGreatHpAc
import Derived.Test.YtefmbchebobceaaGreatHpAd
import Derived.Test.YtefmbchebobceaaGreatHpAe
import Derived.Test.YtefmbchebobceaaGreatHpAf
import Derived.Test.YtefmbchebobceaaGreatHpAg
import Derived.Test.YtefmbchebobceaaGreatHpAh
import Derived.Test.YtefmbchebobceaaGreatHqAd
import Derived.Test.YtefmbchebobceaaGreatHqAc
import Derived.Test.YtefmbchebobceaaGreatRows

namespace Go.Proofs.YtefmbchebobceaaGreat.hotKeepsRow
open Go.ChangeShapes Go.WideShapes Go.ChangeAt Go.RowKit
open Go.ChangeMaps (open_string)
set_option linter.unusedVariables false

set_option maxRecDepth 100000 in
theorem lifted (os : Os) (started : os.Started) (H : Type) (enc : TypeId × Value → H) :
    ReturnsInHanded {} Tryz.checked os 5 .any (Rows.hotKeepsSpec.pre6 enc Tryz.prog Tryz.f5 Rows.hotKeepsRow.domain false) (Rows.hotKeepsSpec.post enc Tryz.prog Tryz.f5 false true false false) := by
  refine returnsInHanded_of_change_sized (C := Tryz.checked) own_ started (by kernel_rfl) Tryz.func5
    (ChangeSpec.witness6 (enc := enc) (C := Tryz.checked) false ⟨#[], #[.agg #[.int .i64 0, .int .i64 0, .int .i64 0, .int .i64 0, .int .i64 0, .int .u64 0], .slice none 0 0], []⟩ 8 (by kernel_rfl) (by kernel_rfl) (by kernel_rfl) (by kernel_rfl)) ?_
  intro W base args ds gs before hval0 hW _ hsz0 _
  have hsz : (DataW.weightsEach Tryz.prog (Tryz.f5.params.toList ++ Rows.hotKeepsSpec.plain.varTypes Tryz.prog) (ds ++ gs)).all (· ≤ reachBytes) = true := hsz0
  clear hsz0
  have hval : ∀ (j : Nat) t v, Tryz.f5.params[j]? = some t → args[j]? = some v → Value.okWide Tryz.prog W .any base t v := hval0
  have hW' := hW
  obtain ⟨p, q, hA0, hV, rfl, hfz, hnd⟩ := hW
  have hA : DataW.TrodAll enc Tryz.prog W 0 (fun _ => true) true Tryz.f5.params.toList args.toList ds p := hA0
  rw [Tryz.params5] at hA hval hsz
  obtain ⟨v0, vs0, d0, ds0, p0, q0, hargs, rfl, rfl, h0, r0⟩ := trodAll_cons hA
  obtain ⟨v1, vs1, d1, ds1, p1, q1, rfl, rfl, rfl, h1, r1⟩ := trodAll_cons r0
  obtain ⟨rfl, rfl, rfl⟩ := trodAll_nil r1
  obtain rfl : args = #[v0, v1] := by cases args; simp_all
  obtain ⟨rfl, rfl⟩ := trodVars_none hV
  clear hA0 hval0
  simp only [List.append_nil] at hW'
  have hlt0 : ∀ x ∈ p0, x.block < W.heap.size := fun x hx => by have := hW'.lt x (by simp [hx]); simpa using this
  have hlt1 : ∀ x ∈ p1, x.block < W.heap.size := fun x hx => by have := hW'.lt x (by simp [hx]); simpa using this
  have hfin : ∀ (W' : World), Below W.heap.size W W' → ∃ v, Ending.returned (.bool true) = Ending.returned v ∧ Rows.hotKeepsSpec.post enc Tryz.checked.prog Tryz.f5 false true false false W #[v0, v1] v W' := fun W' hn =>
    ⟨_, rfl, _, _, _, [] ++ [], p0 ++ (p1 ++ []), [], hW', (trodAll_cons_mk (shut_bool Tryz.underlying4 _) trodAll_mk0), (trodAll_cons_mk (Below.trod laid_ (by kernel_rfl) (of_decide_eq_true (by kernel_rfl)) h0 hn hlt0) (trodAll_cons_mk (Below.trod laid_ (by kernel_rfl) (of_decide_eq_true (by kernel_rfl)) h1 hn hlt1) trodAll_mk0)), rfl, hn.frame _, fun h => by cases h⟩
  obtain ⟨a00, a01, a02, a03, a04, a05, rfl, s0⟩ := open_cfg6 Tryz.underlying24 rfl rfl rfl rfl rfl rfl rfl rfl rfl rfl rfl rfl Tryz.underlying3 Tryz.underlying3 Tryz.underlying3 Tryz.underlying3 Tryz.underlying3 Tryz.underlying22 (by kernel_rfl) (by kernel_rfl) (by kernel_rfl) (by kernel_rfl) (by kernel_rfl) (by kernel_rfl) (by kernel_rfl) (hval 0 24 v0 rfl rfl) h0
  have s1 := open_actsm Tryz.underlying25 Tryz.underlying54 rfl rfl rfl rfl rfl rfl rfl rfl rfl rfl rfl rfl rfl rfl Tryz.underlying3 Tryz.underlying3 Tryz.underlying3 Tryz.underlying3 Tryz.underlying22 Tryz.underlying9 Tryz.underlying52 Tryz.underlying4 (by kernel_rfl) (by kernel_rfl) (by kernel_rfl) (by kernel_rfl) (by kernel_rfl) (by kernel_rfl) (by kernel_rfl) (by kernel_rfl) (by kernel_rfl) (hval 1 25 v1 rfl rfl) h1
  refine (walk_HotKeeps a00 a01 a02 a03 a04 a05 v1 s0 s1).mono fun e W' ⟨he, hg⟩ => ?_
  subst he
  exact hfin W' hg

theorem over : Rows.hotKeepsRow.holds Tryz.pinned (OpenSpec.ofChange Rows.hotKeepsSpec) :=
  OpenClaim.holds_of_wide 5 Tryz.f5 rfl rfl rfl rfl rfl rfl rfl ⟨rfl, rfl, rfl, rfl, rfl⟩ rfl rfl rfl rfl rfl (by kernel_rfl) Tryz.func5 (by kernel_rfl)
    (of_decide_eq_true (by kernel_rfl)) (by unfold Func.isWrapper; first | (rw [if_pos (by decide +kernel)]; kernel_rfl) | (rw [if_neg (by decide +kernel)]; exact ⟨rfl, rfl⟩))
    (fun os started H enc _ => lifted os started H enc)

/-- The statement. -/
theorem proved : Rows.HotKeepsSaid :=
  over

end Go.Proofs.YtefmbchebobceaaGreat.hotKeepsRow
