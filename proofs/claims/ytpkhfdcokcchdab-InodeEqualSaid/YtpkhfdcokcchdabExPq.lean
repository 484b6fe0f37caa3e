/-
  Layer 15: two facts of rows of pairs.
-/
import Derived.Test.YtpkhfdcokcchdabSlE
import Derived.StillTailTactics
import Derived.Deep.AppendLies
import Derived.BigRegion
import Derived.KernelRfl
namespace Go.Proofs.Ytpkhfdcokcchdab
open Go.RowKit

theorem sl2_parts {w : World} {ao : Option Addr} {n cap : Nat} {l : List (Int × Int)} (h : Sl2 w (.slice ao n cap) l) : n = l.length ∧ Rd2 w ao l ∧ n ≤ cap ∧ cap ≤ maxLen ∧ (ao = none → cap = 0) := by
  obtain ⟨a, c, hv, h1, h2, h3, h4⟩ := h
  injection hv with q1 q2 q3
  subst q1 q2 q3
  exact ⟨rfl, h1, h2, h3, h4⟩
theorem own_form2 {w : World} {base : Nat} {e : TypeId} {size n : Nat} {v : Value} {xs : List Value} (h : w.ownsRow base e size v n xs) : ∃ ao cap, v = .slice ao n cap := by
  rcases h.2 with ⟨rfl, rfl⟩ | ⟨g, cap, cur, rfl, _⟩
  · exact ⟨none, 0, rfl⟩
  · exact ⟨_, _, rfl⟩
theorem infoExt2 : (Try.prog.info? 72).map (fun i => (i.zero, i.size, i.bytes)) = some (some (.agg #[.int .i64 0, .int .i64 0]), 2, 16) := by kernel_rfl
theorem infoP2 : (Try.prog.info? 46).map (fun i => (i.zero, i.size, i.bytes)) = some (some (.agg #[.int .i64 0, .int .i64 0]), 2, 16) := by kernel_rfl
theorem gr_grown {w w' : World} {row : Option Nat} (h : w.grownBy w' row) : Gr row.toList w w' := ⟨h.os, h.tape, h.output, h.size, fun i hi hn => h.block i hi (fun e => hn (by rw [← e]; simp))⟩
theorem cells2_bump (A : List (Int × Int)) (a b c : Int) : (cells2 (A ++ [(a, b)])).set (A.length * 2 + 1) (.int .i64 c) = cells2 (A ++ [(a, c)]) := by
  rw [cells2_append, cells2_append, List.set_append_right _ _ (by rw [cells2_len]; omega), cells2_len, show A.length * 2 + 1 - A.length * 2 = 1 by omega]
  rfl

end Go.Proofs.Ytpkhfdcokcchdab
