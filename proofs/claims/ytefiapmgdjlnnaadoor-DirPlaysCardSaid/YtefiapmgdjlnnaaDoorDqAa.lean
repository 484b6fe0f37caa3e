/-
  DqAa: Reg, Base, Gr, MapT.
-/
import Derived.Test.YtefiapmgdjlnnaaDoorDnAa
import Derived.Test.YtefiapmgdjlnnaaDoorDnAb
import Derived.Test.YtefiapmgdjlnnaaDoorDnAc
import Derived.Test.YtefiapmgdjlnnaaDoorDnAd
import Derived.Test.YtefiapmgdjlnnaaDoorDnAe
import Derived.Test.YtefiapmgdjlnnaaDoorDnAf
import Derived.Test.YtefiapmgdjlnnaaDoorDnAg
import Derived.Test.YtefiapmgdjlnnaaDoorDnAh
import Derived.Test.YtefiapmgdjlnnaaDoorDnAi
import Derived.WalkKit
import Derived.Handy
import Derived.Lib.Hide
import Derived.Deep.QuietTactic
import Derived.BigQuiet
import Derived.KernelRfl
import Derived.Test.YtefiapmgdjlnnaaDoorRows
import Derived.Maps.RangeWalk
import Derived.Maps.OwnSet
import Derived.StringKeys

set_option linter.unusedVariables false

/-
  A region that draws its order, over a class of worlds that an invariant names: a call may make memory if it keeps the invariant.
-/
namespace Go.Proofs.YtefiapmgdjlnnaaDoor
open Go.RowKit

/-! ### A block that is known whole -/
section
variable {w w' : World} {b : Nat} {cs : Array Value} {t : TypeId}
end
theorem below_new {w w1 : World} (h : Below w.heap.size w w1) (o : Obj) : Below w.heap.size w (w1.alloc o) := h.alloc h.size o

end Go.Proofs.YtefiapmgdjlnnaaDoor

/-
  What many texts share: worlds below a bound; max with 0; small arithmetic.
-/
namespace Go.Proofs.YtefiapmgdjlnnaaDoor
open Go.RowKit

def mx (y : Int) : Int := max 0 y
theorem mx_nonneg (y : Int) : 0 ≤ mx y := by unfold mx; omega
theorem max0 (P : Program) (ts : Array TypeId) (t : TypeId) (y : Int) (w : World) : (Builtin.max_ ts t #[.int .i64 0, .int .i64 y]).run P w = .ok (.int .i64 (mx y)) w := by
  rw [run_max_int2]
  have : (if y > 0 then y else 0) = mx y := by unfold mx; split <;> omega
  rw [this]
end Go.Proofs.YtefiapmgdjlnnaaDoor

/-
  What a step leaves as it was: all but the blocks of a list.
-/
namespace Go.Proofs.YtefiapmgdjlnnaaDoor
open Go.RowKit

theorem Gr.drew {bs : List Nat} {a w : World} (h : Gr bs a w) : Gr bs a w.drew := ⟨h.os, h.tape, h.output, h.size, h.block⟩
theorem own_gr {w w' : World} {base : Nat} {e : TypeId} {size n : Nat} {v : Value} {xs : List Value} {bs : List Nat} (h : w.ownsRow base e size v n xs) (k : Gr bs w w') (hn : ∀ b, v.ownBlock = some b → b ∉ bs) : w'.ownsRow base e size v n xs := by
  refine ⟨h.1, ?_⟩
  rcases h.2 with hz | ⟨g, cap, cur, rfl, hg, hh, rest⟩
  · exact .inl hz
  · exact .inr ⟨g, cap, cur, rfl, hg, (k.block g (Array.getElem?_eq_some_iff.1 hh).1 (hn g rfl)).trans hh, rest⟩
theorem own_gr0 {w w' : World} {base : Nat} {e : TypeId} {size n : Nat} {v : Value} {xs : List Value} (h : w.ownsRow base e size v n xs) (k : Gr [] w w') : w'.ownsRow base e size v n xs := own_gr h k fun _ _ => by simp

theorem Gr.cell0 {w w' : World} {b o : Nat} (h : Gr [] w w') (hb : b < w.heap.size) : w'.cell? ⟨b, o, none⟩ = w.cell? ⟨b, o, none⟩ := World.cell?_of_block (w := w) (h.block b hb (by simp))
end Go.Proofs.YtefiapmgdjlnnaaDoor

/-
  Maps keyed by string, as functions of the key: look-up, store, delete, length, range. Their size is told.
-/
namespace Go.Proofs.YtefiapmgdjlnnaaDoor
open Go.RowKit
open Go.Maps (Keyed has)

section
variable {P : Program} {k e t : TypeId} {α : Type} {E : EltLaw P e α} {w w' : World} {b n r : Nat}
theorem MIsT.del {D : DataW Unit} {f : ByteArray → Option α} (h : MIsT E D f) (z : ByteArray) : MIsT E (D.del (tL z)) (updT f z none) := by
  intro y hy
  by_cases q : y = z
  · subst q
    refine ⟨?_, fun zd => ?_⟩
    · rw [Maps.has_del_same]; simp [updT]
    · rw [Maps.atKey_del_same]; simp [updT]
  · have hne : tL y ≠ tL z := fun e => q (tL_inj e)
    refine ⟨?_, fun zd => ?_⟩
    · rw [Maps.has_del_other hne, (h y hy).1]; simp [updT, q]
    · rw [Maps.atKey_del_other hne, (h y hy).2]; simp [updT, q]
end

section
variable {P : Program} {k e t : TypeId} {α : Type} {E : EltLaw P e α} {w : World} {b n r : Nat} {f : ByteArray → Option α} {ops : Array Oper} {rest : List Oper} {o : Oper} {a : Act} {Q : Exit → Act → World → Prop}

/-- 'delete(m, z)' -/
theorem wp_delT (hg : o.guard = none) (m x : Operand) (hop : o.op = Op.call { callee := Callee.builtin Builtin.delete, args := #[m, x], argTypes := #[t, k] }) (hm : a.eval m = .map (some b)) (h : MapT E k w b n f) (hk : P.underlying k = some .string) (ht : P.underlying t = some (.map k e)) (z : ByteArray) (hx : a.eval x = .string z) (hz : WfT z)
    (hK : ∀ w', MapT E k w' b (if (f z).isSome then n - 1 else n) (updT f z none) → Gr [b] w w' → w'.heap.size = w.heap.size → wpList P ops Q rest (a.put o.dst (.tuple #[])) w') : wpList P ops Q (o :: rest) a w := by
  obtain ⟨D, h, q⟩ := h
  refine wpList_plain hg fun K' hK' => ?_
  obtain ⟨w', hrun, r1, r2⟩ := h.drop (Maps.string_keyed hk) ht (tkey hk hz) o.type
  unfold Oper.wp
  simp [execOp, hop, resolve, invoke, builtin, hm, hx, hrun, Result.andThen]
  have hs : w'.heap.size = w.heap.size := by
    obtain ⟨es, cl, es', cl', _, rfl⟩ := r2
    simp [ChangeMaps.setBlock]
  have r3 := own_tight r1
  have r4 := Maps.size_del (k := tL z) (h.tidy (Maps.string_keyed hk))
  rw [(q.1 z hz).1, q.2] at r4
  have r5 : Maps.size (D.del (tL z)) = if (f z).isSome then n - 1 else n := by split at r4 <;> rename_i c <;> simp [c] <;> omega
  rw [r5] at r3
  exact hK' _ _ (hK w' ⟨_, r3, q.1.del z, r5⟩ (Gr.ofGrown r2.grown) hs)

/-! ### range -/
end

end Go.Proofs.YtefiapmgdjlnnaaDoor
