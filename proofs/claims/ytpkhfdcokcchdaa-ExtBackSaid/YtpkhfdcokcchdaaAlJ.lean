/-
  alloc: Take whole; New's runs.
-/
import Derived.Test.YtpkhfdcokcchdaaAlI
namespace Go.Proofs.Ytpkhfdcokcchdaa
open Go.RowKit

theorem atake_yes (N : Nat) (l : List (Nat × Nat)) (ao : Option Addr) (cap n : Nat) (w : World) (h : SetIs w N l ao cap) (hn : 1 ≤ n) (hs : n ≤ sumL l) :
    Calls Try.prog 21 #[.agg #[.int .i64 N, .slice ao l.length cap], .int .i64 n] w fun r w' => ∃ ao' cap' a2 c2, r = .returned (.tuple #[.agg #[.int .i64 N, .slice ao' (takeL l n).1.length cap'], .slice a2 (takeL l n).2.length c2, .int .i64 0]) ∧ SetIs w' N (takeL l n).1 ao' cap' ∧ Sl2 w' (.slice a2 (takeL l n).2.length c2) (zl (takeL l n).2) ∧ Gr [] w w' := by
  cases q : fitI l n with
  | none =>
    have e : takeL l n = greedy l n := by unfold takeL; rw [q]
    rw [e]
    exact atake_greedy N l ao cap n w h hn hs q
  | some i =>
    obtain ⟨e, he, hle, _⟩ := fitI_some q
    have hg : l.getD i (0, 0) = e := by simp [List.getD, he]
    have hm := h.mem he
    cases u : useL l e.1 n with
    | none =>
      obtain ⟨b, hb, hf⟩ := useL_none h.runs hn u
      have : covB l b = true := by
        rw [covB, List.any_eq_true]
        refine ⟨e, List.mem_of_getElem? he, ?_⟩
        simp [inR] at hb ⊢; omega
      rw [this] at hf; cases hf
    | some l' =>
      have e1 : takeL l n = (l', [(e.1, n)]) := by unfold takeL; rw [q]; simp only; rw [hg, u]; rfl
      rw [e1]
      refine (atake_fit N l l' ao cap n i e w h hn hs q he u).mono ?_
      rintro r w' ⟨ao', cap', a2, rfl, hs', hr, g⟩
      refine ⟨ao', cap', a2, 1, rfl, hs', ⟨a2, 1, rfl, hr, Nat.le_refl _, by decide, fun e2 => ?_⟩, g⟩
      obtain ⟨b, o, h1, _⟩ := hr 0 _ rfl
      rw [h1] at e2; cases e2
theorem new_runs {N : Nat} {l : List (Nat × Nat)} (h : RunsF 0 N l) (hc : ∀ b, covB l b = decide (b < N)) : l = if N = 0 then [] else [(0, N)] := by
  refine runs_uniq h ?_ fun b => ?_
  · split
    · trivial
    · exact ⟨Nat.le_refl _, by simp only; omega, by simp, trivial⟩
  · rw [hc]
    split
    · rename_i e; subst e; simp [covB]
    · simp [covB]
theorem anew_runs (n : Nat) (w : World) (h : n ≤ 65536) (h0 : n ≠ 0) :
    Calls Try.prog 15 #[.int .i64 n] w fun e w' => ∃ ao cap, e = .returned (.tuple #[.agg #[.int .i64 n, .slice ao 1 cap], .int .i64 0]) ∧ SetIs w' n [(0, n)] ao cap ∧ Gr [] w w' := by
  refine (anew_yes n w h).mono ?_
  rintro e w' ⟨ao, cap, l, rfl, hs, hc, g⟩
  have := new_runs hs.runs hc
  rw [if_neg h0] at this
  subst this
  exact ⟨ao, cap, rfl, hs, g⟩

end Go.Proofs.Ytpkhfdcokcchdaa
