/-
  Layer 24: the document's list of a client's locks.
-/
import Derived.Test.YtlafmdpcabgcdaaLkH
import Derived.Test.YtlafmdpcabgcdaaLkI
import Derived.Maps.AppendAt
import Derived.RangeFuncBox
namespace Go.Proofs.Ytlafmdpcabgcdaa
open Go.RowKit

theorem infoInt8 : (Try.prog.info? 3).map (fun i => (i.zero, i.size, i.bytes)) = some (some (.int .i64 0), 1, 8) := by kernel_rfl
theorem own_base {w : World} {b1 b2 n size : Nat} {e : TypeId} {v : Value} {xs : List Value} (h : w.ownsRow b2 e size v n xs) (hb : b1 ≤ b2) : w.ownsRow b1 e size v n xs := by
  refine ⟨h.1, ?_⟩
  rcases h.2 with q | ⟨g, cap, cur, h1, h2, h3⟩
  · exact .inl q
  · exact .inr ⟨g, cap, cur, h1, Nat.le_trans hb h2, h3⟩
theorem ofP_len (l : List (Int × Int)) (c : Int) : (ofP l c).length ≤ l.length := by
  have h := (ofP_rise l c).len_le (m := l.map (·.2)) (fun z hz => List.mem_map.2 ⟨(c, z), (ofP_mem l c z).1 hz, rfl⟩)
  simpa using h
def zv (l : List Int) : List Value := l.map (Value.int .i64)
set_option maxRecDepth 100000 in
set_option maxHeartbeats 8000000 in
/-- One more lock: the inner loop, from its start to the next pair. -/
theorem own_rd {w : World} {base n : Nat} {v : Value} {l : List Int} (h : w.ownsRow base 3 1 v n (zv l)) : ∃ ao cap, v = .slice ao l.length cap ∧ RdI w ao l ∧ n = l.length := by
  have hn : n = l.length := by have := h.1; simp [zv] at this; omega
  subst hn
  rcases h.2 with ⟨rfl, h0⟩ | ⟨g, cap, cur, rfl, hg, hh, hc, hm, hs, ht⟩
  · obtain rfl := List.length_eq_zero_iff.1 h0
    exact ⟨none, 0, rfl, RdI.nil _ _, rfl⟩
  · have h' : w.ownsRow base 3 1 (.slice (some ⟨g, 0, none⟩) l.length cap) l.length (zv l) := h
    refine ⟨_, cap, rfl, fun i x hi => ?_, rfl⟩
    have hlt := (List.getElem?_eq_some_iff.1 hi).1
    refine ⟨g, 0, rfl, (Array.getElem?_eq_some_iff.1 hh).1, ?_⟩
    rw [Nat.zero_add, h'.cellAt i (by omega)]
    simp [zv, hi]

end Go.Proofs.Ytlafmdpcabgcdaa
