/-
  What many texts share: worlds below a bound; max with 0; small arithmetic.
-/
import Derived.Test.YtdgcninmpcmdcaaGreatRows
import Derived.Test.YtdgcninmpcmdcaaGreatReg
namespace Go.Proofs.YtdgcninmpcmdcaaGreat
open Go.RowKit

theorem own_keep {w w' : World} {base : Nat} {e : TypeId} {size n : Nat} {v : Value} {xs : List Value} (h : w.ownsRow base e size v n xs) (hb : Below w.heap.size w w') : w'.ownsRow base e size v n xs := by
  refine ⟨h.1, ?_⟩
  rcases h.2 with hn | ⟨g, cap, cur, rfl, hg, hh, rest⟩
  · exact .inl hn
  · exact .inr ⟨g, cap, cur, rfl, hg, (hb.block g (Array.getElem?_eq_some_iff.1 hh).1).trans hh, rest⟩
def mx (y : Int) : Int := max 0 y
theorem mx_nonneg (y : Int) : 0 ≤ mx y := by unfold mx; omega
theorem max0 (P : Program) (ts : Array TypeId) (t : TypeId) (y : Int) (w : World) : (Builtin.max_ ts t #[.int .i64 0, .int .i64 y]).run P w = .ok (.int .i64 (mx y)) w := by
  rw [run_max_int2]
  have : (if y > 0 then y else 0) = mx y := by unfold mx; split <;> omega
  rw [this]
theorem bcellG {W w1 : World} (hb : Below W.heap.size W w1) : (∀ b o, b < W.heap.size → w1.cell? ⟨b, o, none⟩ = W.cell? ⟨b, o, none⟩) ∧ (∀ b o, b < W.heap.size → w1.frozen? ⟨b, o, none⟩ = W.frozen? ⟨b, o, none⟩) :=
  ⟨fun b o h => hb.cell (p := ⟨b, o, none⟩) h, fun b o h => hb.frozen (p := ⟨b, o, none⟩) h⟩
theorem Below_nx {w w1 w2 : World} (h : Below w.heap.size w w1) (k : Below w1.heap.size w1 w2) : Below w.heap.size w w2 := h.trans (k.mono h.size)
theorem natU64 {a : Int} (h : (Lit.int .u64 a).wf = true) : ∃ n : Nat, a = n ∧ n < 18446744073709551616 := by
  have := bounds_u64 h
  exact ⟨a.toNat, by omega, by omega⟩
theorem natU8 {a : Int} (h : (Lit.int .u8 a).wf = true) : ∃ n : Nat, a = n ∧ n < 256 := by
  have := bounds_u8 h
  exact ⟨a.toNat, by omega, by omega⟩
theorem natU16 {a : Int} (h : (Lit.int .u16 a).wf = true) : ∃ n : Nat, a = n ∧ n < 65536 := by
  have := bounds_u16 h
  exact ⟨a.toNat, by omega, by omega⟩
theorem made_one (v : Value) (hv : Value.cells v = #[v]) (n : Nat) : (madeCells (Value.cells v) (n * 1)).toList = List.replicate n v := by
  rw [hv]
  apply List.ext_getElem
  · simp [madeCells]
  · intro i h1 h2
    simp [madeCells, Nat.mod_one]

end Go.Proofs.YtdgcninmpcmdcaaGreat
