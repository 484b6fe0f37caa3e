/-
  HkAb: Map, NiE, Pm, PmB.
-/
import Derived.Test.YtefmbchebobceaaGreatHkAa
import Derived.Maps.RangeWalk
import Derived.Maps.OwnSet

set_option linter.unusedVariables false

/-
  Maps keyed by int, as functions of the key: look-up, store, delete, clear, range.
-/
namespace Go.Proofs.YtefmbchebobceaaGreat
open Go.RowKit
open Go.Maps (Keyed has)

structure EltLaw (P : Program) (e : TypeId) (α : Type) where
  val : α → Value
  enc : α → DataW Unit
  R : Value → Option (DataW Unit × List MemPlace)
  R_mk : ∀ a, R (val a) = some (enc a, [])
  R_inv : ∀ v y, R v = some y → ∃ a, v = val a ∧ y = (enc a, [])
  enc_inj : ∀ a b, enc a = enc b → a = b
  zero : α
  zero_run : ∀ w, (zeroValue e).run P w = .ok (val zero) w

section
variable {P : Program} {k e t : TypeId} {α : Type} {E : EltLaw P e α} {w w' : World} {b n r : Nat}

def WfZ (z : Int) : Prop := (Lit.int .i64 z).wf = true
theorem wfZ {z : Int} (h1 : -9223372036854775808 ≤ z) (h2 : z ≤ 9223372036854775807) : WfZ z := WalkArith.wf_i64 ⟨h1, h2⟩
theorem key_self (z : Int) : (Lit.int IntKind.i64 z).sameKey (.int .i64 z) = true := WideAt.sameKey_self (by simp [WideAt.IsKeyLit])
theorem key_ne {y z : Int} (h : y ≠ z) : (Lit.int IntKind.i64 y).sameKey (.int .i64 z) = false := Maps.sameKey_ne (by intro q; injection q; contradiction)
theorem key_is (y z : Int) : (Lit.int IntKind.i64 y).sameKey (.int .i64 z) = decide (y = z) := by
  by_cases h : y = z
  · subst h; simp [key_self]
  · simp [key_ne h, h]
def MIs (E : EltLaw P e α) (D : DataW Unit) (f : Int → Option α) : Prop := ∀ z, WfZ z → has D (.int .i64 z) = (f z).isSome ∧ ∀ zd, D.atKey (.int .i64 z) zd = ((f z).map E.enc).getD zd
def MapZ (E : EltLaw P e α) (k : TypeId) (w : World) (b n : Nat) (f : Int → Option α) : Prop := ∃ D, w.ownsMap P k E.R b n D ∧ MIs E D f
def updZ (f : Int → Option α) (z : Int) (v : Option α) : Int → Option α := fun y => if y = z then v else f y

theorem MIs.put {D : DataW Unit} {f : Int → Option α} (h : MIs E D f) (hD : Maps.IsMap D) (z : Int) (a : α) : MIs E (D.put (.int .i64 z) (E.enc a)) (updZ f z (some a)) := by
  intro y hy
  by_cases q : y = z
  · subst q
    refine ⟨?_, fun zd => ?_⟩
    · rw [Maps.has_put_same hD (by simp [WideAt.IsKeyLit])]; simp [updZ]
    · rw [Maps.atKey_put_same hD (by simp [WideAt.IsKeyLit])]; simp [updZ]
  · have hne : (Lit.int IntKind.i64 y) ≠ .int .i64 z := by intro e; injection e; contradiction
    refine ⟨?_, fun zd => ?_⟩
    · rw [Maps.has_put_other hne, (h y hy).1]; simp [updZ, q]
    · rw [Maps.atKey_put_other hne, (h y hy).2]; simp [updZ, q]
theorem MIs.del {D : DataW Unit} {f : Int → Option α} (h : MIs E D f) (z : Int) : MIs E (D.del (.int .i64 z)) (updZ f z none) := by
  intro y hy
  by_cases q : y = z
  · subst q
    refine ⟨?_, fun zd => ?_⟩
    · rw [Maps.has_del_same]; simp [updZ]
    · rw [Maps.atKey_del_same]; simp [updZ]
  · have hne : (Lit.int IntKind.i64 y) ≠ .int .i64 z := by intro e; injection e; contradiction
    refine ⟨?_, fun zd => ?_⟩
    · rw [Maps.has_del_other hne, (h y hy).1]; simp [updZ, q]
    · rw [Maps.atKey_del_other hne, (h y hy).2]; simp [updZ, q]
theorem MIs.empty : MIs E (.map []) (fun _ => none) := by
  intro y _
  exact ⟨rfl, fun zd => rfl⟩
theorem MIs.some {D : DataW Unit} {f : Int → Option α} (h : MIs E D f) {z : Int} (hz : WfZ z) {a : α} (ha : ∀ zd, D.atKey (.int .i64 z) zd = E.enc a) (hn : has D (.int .i64 z) = true) : f z = .some a := by
  obtain ⟨h1, h2⟩ := h z hz
  rw [hn] at h1
  cases q : f z with
  | none => rw [q] at h1; cases h1
  | some c =>
    have := h2 (E.enc a)
    rw [ha, q] at this
    rw [E.enc_inj _ _ this]

theorem MapZ.lt {f : Int → Option α} (h : MapZ E k w b n f) : b < w.heap.size := by obtain ⟨D, h, _⟩ := h; exact h.lt
theorem MapZ.mono {f : Int → Option α} {m : Nat} (h : MapZ E k w b n f) (hm : n ≤ m) : MapZ E k w b m f := by obtain ⟨D, h, q⟩ := h; exact ⟨D, h.mono hm, q⟩
theorem MapZ.made (w : World) : MapZ E k (w.alloc (.map #[] 0)) w.heap.size 0 (fun _ => none) := ⟨.map [], World.ownsMap_made _ _ _ _, MIs.empty⟩
theorem MapZ.block {f : Int → Option α} (h : MapZ E k w b n f) (hb : w'.heap[b]? = w.heap[b]?) : MapZ E k w' b n f := by
  obtain ⟨D, ⟨es, clock, h1, h2, h3, h4⟩, q⟩ := h
  exact ⟨D, ⟨es, clock, hb.trans h1, h2, h3, h4⟩, q⟩
theorem MapZ.gr {f : Int → Option α} {bs : List Nat} (h : MapZ E k w b n f) (g : Gr bs w w') (hn : b ∉ bs) : MapZ E k w' b n f := h.block (g.block b h.lt hn)
theorem MapZ.gr0 {f : Int → Option α} (h : MapZ E k w b n f) (g : Gr [] w w') : MapZ E k w' b n f := h.gr g (by simp)
theorem Gr.ofGrown {row : Option Nat} (h : w.grownBy w' row) : Gr row.toList w w' := ⟨h.os, h.tape, h.output, h.size, fun i hi hn => h.block i hi (fun e => hn (by rw [← e]; simp))⟩

theorem MapZ.look {f : Int → Option α} (h : MapZ E k w b n f) (hk : P.underlying k = some (.int .i64)) (ht : P.underlying t = some (.map k e)) {z : Int} (hz : WfZ z) :
    (Instr.lookup t (.map (some b)) (.int .i64 z) false).run P w = .ok (E.val ((f z).getD E.zero)) w := by
  obtain ⟨D, h, q⟩ := h
  obtain ⟨v, ps, hrun, hv⟩ := h.lookup (Maps.int_keyed hk) ht (E.zero_run w) (E.R_mk E.zero) (Maps.keyOf_int_mk hk hz)
  obtain ⟨a, rfl, ha⟩ := E.R_inv _ _ hv
  rw [hrun]
  have h2 := (q z hz).2 (E.enc E.zero)
  injection ha with ha _
  rw [ha] at h2
  congr 2
  cases c : f z with
  | none => rw [c] at h2; exact E.enc_inj _ _ h2
  | some x => rw [c] at h2; exact E.enc_inj _ _ h2
theorem MapZ.look_ok {f : Int → Option α} (h : MapZ E k w b n f) (hk : P.underlying k = some (.int .i64)) (ht : P.underlying t = some (.map k e)) {z : Int} (hz : WfZ z) :
    (Instr.lookup t (.map (some b)) (.int .i64 z) true).run P w = .ok (.tuple #[E.val ((f z).getD E.zero), .bool (f z).isSome]) w := by
  obtain ⟨D, h, q⟩ := h
  obtain ⟨v, ps, hrun, hv⟩ := h.look_ok (Maps.int_keyed hk) ht (E.zero_run w) (E.R_mk E.zero) (Maps.keyOf_int_mk hk hz)
  obtain ⟨a, rfl, ha⟩ := E.R_inv _ _ hv
  rw [hrun, (q z hz).1]
  have h2 := (q z hz).2 (E.enc E.zero)
  injection ha with ha _
  rw [ha] at h2
  congr 4
  cases c : f z with
  | none => rw [c] at h2; exact congrArg E.val (E.enc_inj _ _ h2)
  | some x => rw [c] at h2; exact congrArg E.val (E.enc_inj _ _ h2)
end

section
variable {P : Program} {k e t : TypeId} {α : Type} {E : EltLaw P e α} {w : World} {b n r : Nat} {f : Int → Option α} {ops : Array Oper} {rest : List Oper} {o : Oper} {a : Act} {Q : Exit → Act → World → Prop}

theorem wp_lookZ_ok (hg : o.guard = none) (m x : Operand) (hop : o.op = Op.lookup t m x true) (hm : a.eval m = .map (some b)) (h : MapZ E k w b n f) (hk : P.underlying k = some (.int .i64)) (ht : P.underlying t = some (.map k e)) (z : Int) (hx : a.eval x = .int .i64 z) (hz : WfZ z)
    (hK : wpList P ops Q rest (a.put o.dst (.tuple #[E.val ((f z).getD E.zero), .bool (f z).isSome])) w) : wpList P ops Q (o :: rest) a w := by
  refine wpList_plain hg fun K' hK' => ?_
  unfold Oper.wp
  simp [execOp, hop, hm, hx, h.look_ok hk ht hz, Result.andThen]
  exact hK' _ _ hK
theorem wp_lookZ_oks (hg : o.guard = none) (m x : Operand) (hop : o.op = Op.lookup t m x true) (hm : a.eval m = .map (some b)) (h : MapZ E k w b n f) (hk : P.underlying k = some (.int .i64)) (ht : P.underlying t = some (.map k e)) (z : Int) (hx : a.eval x = .int .i64 z) (hz : WfZ z)
    (V : Value) (hV : Value.tuple #[E.val ((f z).getD E.zero), .bool (f z).isSome] = V) (hK : wpList P ops Q rest (a.put o.dst V) w) : wpList P ops Q (o :: rest) a w :=
  wp_lookZ_ok hg m x hop hm h hk ht z hx hz (by rw [hV]; exact hK)
theorem wp_putZ (hg : o.guard = none) (m x v : Operand) (hop : o.op = Op.mapUpdate t m x v) (hm : a.eval m = .map (some b)) (h : MapZ E k w b n f) (hn : n < maxLen) (hk : P.underlying k = some (.int .i64)) (ht : P.underlying t = some (.map k e)) (z : Int) (hx : a.eval x = .int .i64 z) (hz : WfZ z)
    (c : α) (hv : a.eval v = E.val c) (hK : ∀ w', MapZ E k w' b (n + 1) (updZ f z (some c)) → Gr [b] w w' → w'.heap.size = w.heap.size → wpList P ops Q rest (a.put o.dst undef) w') : wpList P ops Q (o :: rest) a w := by
  obtain ⟨D, h, q⟩ := h
  refine wpList_plain hg fun K' hK' => ?_
  obtain ⟨w', hrun, r1, r2⟩ := h.store (Maps.int_keyed hk) ht hn (Maps.keyOf_int_mk hk hz) (E.R_mk c)
  unfold Oper.wp
  simp [execOp, hop, hm, hx, hv, hrun, Result.andThen]
  have hs : w'.heap.size = w.heap.size := by
    obtain ⟨es, cl, es', cl', _, rfl⟩ := r2
    simp [ChangeMaps.setBlock]
  exact hK' _ _ (hK w' ⟨_, r1, q.put h.isMap z c⟩ (Gr.ofGrown r2.grown) hs)
theorem own_tight {D : DataW Unit} {R : Value → Option (DataW Unit × List MemPlace)} {W : World} {m : Nat} (h : W.ownsMap P k R b m D) : W.ownsMap P k R b (Maps.size D) D := by
  obtain ⟨es, clock, h1, h2, h3, h4⟩ := h
  refine ⟨es, clock, h1, h2, ?_, h4⟩
  rw [h4]
  simp [Maps.size, length_sorted]
theorem wp_putZ_old (hg : o.guard = none) (m x v : Operand) (hop : o.op = Op.mapUpdate t m x v) (hm : a.eval m = .map (some b)) (h : MapZ E k w b n f) (hn : n < maxLen) (hk : P.underlying k = some (.int .i64)) (ht : P.underlying t = some (.map k e)) (z : Int) (hx : a.eval x = .int .i64 z) (hz : WfZ z)
    (c : α) (hv : a.eval v = E.val c) (hold : (f z).isSome = true) (hK : ∀ w', MapZ E k w' b n (updZ f z (some c)) → Gr [b] w w' → w'.heap.size = w.heap.size → wpList P ops Q rest (a.put o.dst undef) w') : wpList P ops Q (o :: rest) a w := by
  obtain ⟨D, h, q⟩ := h
  refine wpList_plain hg fun K' hK' => ?_
  obtain ⟨w', hrun, r1, r2⟩ := h.store (Maps.int_keyed hk) ht hn (Maps.keyOf_int_mk hk hz) (E.R_mk c)
  unfold Oper.wp
  simp [execOp, hop, hm, hx, hv, hrun, Result.andThen]
  have hs : w'.heap.size = w.heap.size := by
    obtain ⟨es, cl, es', cl', _, rfl⟩ := r2
    simp [ChangeMaps.setBlock]
  have r3 := own_tight r1
  rw [Maps.size_put (h.tidy (Maps.int_keyed hk)), (q z hz).1, hold] at r3
  exact hK' _ _ (hK w' ⟨_, r3.mono h.size_le, q.put h.isMap z c⟩ (Gr.ofGrown r2.grown) hs)
theorem wp_delZ (hg : o.guard = none) (m x : Operand) (hop : o.op = Op.call { callee := Callee.builtin Builtin.delete, args := #[m, x], argTypes := #[t, k] }) (hm : a.eval m = .map (some b)) (h : MapZ E k w b n f) (hk : P.underlying k = some (.int .i64)) (ht : P.underlying t = some (.map k e)) (z : Int) (hx : a.eval x = .int .i64 z) (hz : WfZ z)
    (hK : ∀ w', MapZ E k w' b n (updZ f z none) → Gr [b] w w' → w'.heap.size = w.heap.size → wpList P ops Q rest (a.put o.dst (.tuple #[])) w') : wpList P ops Q (o :: rest) a w := by
  obtain ⟨D, h, q⟩ := h
  refine wpList_plain hg fun K' hK' => ?_
  obtain ⟨w', hrun, r1, r2⟩ := h.drop (Maps.int_keyed hk) ht (Maps.keyOf_int_mk hk hz) o.type
  unfold Oper.wp
  simp [execOp, hop, resolve, invoke, builtin, hm, hx, hrun, Result.andThen]
  have hs : w'.heap.size = w.heap.size := by
    obtain ⟨es, cl, es', cl', _, rfl⟩ := r2
    simp [ChangeMaps.setBlock]
  exact hK' _ _ (hK w' ⟨_, r1, q.del z⟩ (Gr.ofGrown r2.grown) hs)

/-! ### range -/
def RanZ (E : EltLaw P e α) (k : TypeId) (w : World) (b r n : Nat) (f : Int → Option α) (left : Int → Bool) (cnt : Nat) : Prop :=
  ∃ D L, w.ranges P k E.R b r n D L cnt ∧ MIs E D f ∧ ∀ z, WfZ z → L (.int .i64 z) = left z
theorem RanZ.map {left : Int → Bool} {cnt : Nat} (h : RanZ E k w b r n f left cnt) : MapZ E k w b n f := by obtain ⟨D, L, h, q, _⟩ := h; exact ⟨D, h.owns, q⟩
theorem RanZ.lt {left : Int → Bool} {cnt : Nat} (h : RanZ E k w b r n f left cnt) : r < w.heap.size := by obtain ⟨D, L, h, _⟩ := h; exact h.lt
theorem RanZ.gr {w' : World} {left : Int → Bool} {cnt : Nat} {bs : List Nat} (h : RanZ E k w b r n f left cnt) (g : Gr bs w w') (h1 : b ∉ bs) (h2 : r ∉ bs) : RanZ E k w' b r n f left cnt := by
  have hb := g.block b h.map.lt h1
  have hr := g.block r h.lt h2
  obtain ⟨D, L, ⟨es, clock, since, seen, c0, q1, q2, q3, q4, q5, q6, q7, q8, q9⟩, rest⟩ := h
  exact ⟨D, L, ⟨es, clock, since, seen, c0, hb.trans q1, q2, q3, q4, hr.trans q5, q6, q7, q8, q9⟩, rest⟩
theorem RanZ.gr0 {w' : World} {left : Int → Bool} {cnt : Nat} (h : RanZ E k w b r n f left cnt) (g : Gr [] w w') : RanZ E k w' b r n f left cnt := h.gr g (by simp) (by simp)
theorem wp_rangeZ (hg : o.guard = none) (m : Operand) (hop : o.op = Op.range t m) (hm : a.eval m = .map (some b)) (h : MapZ E k w b n f) (hk : P.underlying k = some (.int .i64)) (ht : P.underlying t = some (.map k e))
    (hK : ∀ w' cnt, RanZ E k w' b w.heap.size n f (fun z => (f z).isSome) cnt → Gr [] w w' → w'.heap.size = w.heap.size + 1 → wpList P ops Q rest (a.put o.dst (.pointer (some ⟨w.heap.size, 0, none⟩))) w') : wpList P ops Q (o :: rest) a w := by
  obtain ⟨D, h, q⟩ := h
  refine wpList_plain hg fun K' hK' => ?_
  obtain ⟨w', hrun, r1, r2, r3⟩ := h.range (Maps.int_keyed hk) ht
  unfold Oper.wp
  simp [execOp, hop, hm, hrun, Result.andThen]
  exact hK' _ _ (hK w' _ ⟨D, _, r1, q, fun z hz => (q z hz).1⟩ (Gr.ofGrown r2) r3)
theorem wp_nextZ (hg : o.guard = none) (it : Operand) (hop : o.op = Op.next it false) (hit : a.eval it = .pointer (some ⟨r, 0, none⟩)) {left : Int → Bool} {cnt : Nat} (h : RanZ E k w b r n f left cnt) (hk : P.underlying k = some (.int .i64))
    (hDone : (∀ z, WfZ z → left z = false) → wpList P ops Q rest (a.put o.dst (.tuple #[.bool false])) w)
    (hMore : ∀ (z : Int) (c : α) (w' : World) (cnt' : Nat), WfZ z → left z = true → f z = some c → RanZ E k w' b r n f (fun y => left y && decide (y ≠ z)) cnt' → cnt' < cnt → Gr [r] w w' → w'.heap.size = w.heap.size →
      (Instr.entry (.pointer (some ⟨r, 0, none⟩))).run P w' = .ok (.tuple #[.int .i64 z, E.val c]) w' → wpList P ops Q rest (a.put o.dst (.tuple #[.bool true, .int .i64 z, E.val c])) w') :
    wpList P ops Q (o :: rest) a w := by
  obtain ⟨D, L, h, q, hL⟩ := h
  refine wpList_plain hg fun K' hK' => ?_
  unfold Oper.wp
  rcases h.next (Maps.int_keyed hk) o.type with ⟨h0, hl, hrun⟩ | ⟨key, v, kl, y, w', cnt', hkey, hlk, hv, hat, hrun, hrg, hlt, hgr, hsz, hen⟩
  · simp [execOp, hop, hit, hrun, Result.andThen]
    exact hK' _ _ (hDone fun z hz => by rw [← hL z hz]; exact hl _)
  · obtain ⟨z, rfl, rfl, hz⟩ := Maps.keyOf_int_inv hk hkey
    obtain ⟨c, rfl, rfl⟩ := E.R_inv _ _ hv
    have hh : has D (.int .i64 z) = true := Maps.has_true_of_atKey (y := E.enc c) hat
    simp [execOp, hop, hit, hrun, Result.andThen]
    refine hK' _ _ (hMore z c w' cnt' hz (by rw [← hL z hz]; exact hlk) (q.some hz hat hh) ⟨D, _, hrg, q, fun y hy => ?_⟩ hlt (Gr.ofGrown hgr) hsz hen)
    show (L (.int .i64 y) && !(Lit.int .i64 y).sameKey (.int .i64 z)) = _
    rw [hL y hy, key_is]
    simp
end

end Go.Proofs.YtefmbchebobceaaGreat

/-
  Maps from int to int whose elements are natural numbers: look-up and store.
-/
namespace Go.Proofs.YtefmbchebobceaaGreat
open Go.RowKit

def niEnc (c : Nat) : DataW Unit := .lit (.int .i64 (c : Int))
def niR : Value → Option (DataW Unit × List MemPlace)
  | .int .i64 (.ofNat v) => some (niEnc v, [])
  | _ => none
theorem niR_inv (v : Value) (y : DataW Unit × List MemPlace) (h : niR v = some y) : ∃ a : Nat, v = .int .i64 (a : Int) ∧ y = (niEnc a, []) := by
  unfold niR at h
  split at h
  · rename_i n
    cases h
    exact ⟨n, rfl, rfl⟩
  · cases h
noncomputable def niE : EltLaw Tryz.prog 3 Nat where
  val := fun c => .int .i64 (c : Int)
  enc := niEnc
  R := niR
  R_mk := fun _ => rfl
  R_inv := niR_inv
  enc_inj := by
    intro a b h
    unfold niEnc at h
    simp at h
    omega
  zero := 0
  zero_run := fun _ => by kernel_rfl
theorem MapZ.put_runN {w : World} {b m : Nat} {f : Int → Option Nat} (h : MapZ niE 3 w b m f) (hn : m < maxLen) {z : Int} (hz : WfZ z) (c : Nat) :
    ∃ w', (Instr.mapUpdate 260 (.map (some b)) (.int .i64 z) (.int .i64 (c : Int))).run Tryz.prog w = .ok () w' ∧ MapZ niE 3 w' b (m + 1) (updZ f z (some c)) ∧ Gr [b] w w' ∧ w'.heap.size = w.heap.size := by
  obtain ⟨D, h, q⟩ := h
  obtain ⟨w', hrun, r1, r2⟩ := h.store (t := 260) (Maps.int_keyed Tryz.underlying3) Tryz.underlying260 hn (Maps.keyOf_int_mk Tryz.underlying3 hz) (niE.R_mk c)
  have hs : w'.heap.size = w.heap.size := by
    obtain ⟨es, cl, es', cl', _, rfl⟩ := r2
    simp [ChangeMaps.setBlock]
  exact ⟨w', hrun, ⟨_, r1, q.put h.isMap z c⟩, Gr.ofGrown r2.grown, hs⟩
end Go.Proofs.YtefmbchebobceaaGreat

/-
  A device of package pm as a function of words and lines; its simple calls.
-/
namespace Go.Proofs.YtefmbchebobceaaGreat
open Go.RowKit

/-! ### Rows as functions -/
def rowOf (g : Nat → Value) (n : Nat) : Array Value := (Array.range n).map g
theorem rowOf_get (g : Nat → Value) (n i : Nat) (h : i < n) : (rowOf g n)[i]? = some (g i) := by
  unfold rowOf
  rw [Array.getElem?_map, Array.getElem?_range]
  simp [h]
theorem rowOf_set (g : Nat → Value) (n i : Nat) (v : Value) : (rowOf g n).setIfInBounds i v = rowOf (fun j => if j = i then v else g j) n := by
  apply Array.ext
  · simp [rowOf]
  · intro j h1 h2
    have hj : j < n := by simpa [rowOf] using h2
    rw [Array.getElem_setIfInBounds (by simpa [rowOf] using hj)]
    by_cases e : i = j
    · subst e; simp [rowOf]
    · rw [if_neg e]
      have e2 : ¬ j = i := fun q => e q.symm
      simp [rowOf, e2]
theorem rowOf_congr {g g' : Nat → Value} {n : Nat} (h : ∀ i, i < n → g i = g' i) : rowOf g n = rowOf g' n := by
  apply Array.ext
  · simp [rowOf]
  · intro j h1 h2
    have hj : j < n := by simpa [rowOf] using h2
    simp [rowOf, h j hj]
theorem rowOf_made (v : Value) (hv : Value.cells v = #[v]) (n : Nat) : (madeCells (Value.cells v) (n * 1)).toList.toArray = rowOf (fun _ => v) n := by
  rw [made_one v hv]
  apply Array.ext
  · simp [rowOf]
  · intro i h1 h2
    simp [rowOf]

/-! ### The state -/
structure DevS where
  n : Nat
  med : Nat → Nat
  buf : Int → Option (Nat × Bool)
  wear : Nat → Int
  bad : Nat → Bool
  fuse : Int
  off : Bool
  cnt : Nat

def cellVal (p : Nat × Bool) : Value := .agg #[.int .u64 (p.1 : Int), .bool p.2]
def cellEnc (p : Nat × Bool) : DataW Unit := .agg [.lit (.int .u64 (p.1 : Int)), .lit (.bool p.2)]
def cellR : Value → Option (DataW Unit × List MemPlace)
  | .agg cs => match cs.toList with
    | [.int .u64 (.ofNat v), .bool f] => some (cellEnc (v, f), [])
    | _ => none
  | _ => none
theorem cellR_mk (p : Nat × Bool) : cellR (cellVal p) = some (cellEnc p, []) := rfl
theorem cellR_inv (v : Value) (y : DataW Unit × List MemPlace) (h : cellR v = some y) : ∃ a, v = cellVal a ∧ y = (cellEnc a, []) := by
  unfold cellR at h
  split at h
  · rename_i cs
    split at h
    · rename_i v f hl
      cases h
      refine ⟨(v, f), ?_, rfl⟩
      unfold cellVal
      congr 1
      apply Array.ext'
      exact hl
    · cases h
  · cases h
noncomputable def cellE : EltLaw Tryz.prog 137 (Nat × Bool) where
  val := cellVal
  enc := cellEnc
  R := cellR
  R_mk := cellR_mk
  R_inv := cellR_inv
  enc_inj := by
    intro a b h
    unfold cellEnc at h
    obtain ⟨a1, a2⟩ := a
    obtain ⟨b1, b2⟩ := b
    simp at h
    have h1 : a1 = b1 := by have := h.1; omega
    rw [h1, h.2]
  zero := (0, false)
  zero_run := fun _ => by kernel_rfl

structure DevA where
  bd : Nat
  bm : Nat
  bb : Nat
  bw : Nat
  bg : Nat
def DevA.all (a : DevA) : List Nat := [a.bd, a.bm, a.bb, a.bw, a.bg]
def headOf (a : DevA) (D : DevS) : Array Value :=
  #[.slice (some ⟨a.bm, 0, none⟩) (8 * D.n) (8 * D.n), .map (some a.bb), .slice (some ⟨a.bw, 0, none⟩) D.n D.n, .slice (some ⟨a.bg, 0, none⟩) D.n D.n, .int .i64 D.fuse, .bool D.off, .int .i64 (D.cnt : Int)]
structure DevOk (D : DevS) : Prop where
  lo : 1 ≤ D.n
  hi : D.n ≤ 8192
  sup : ∀ z, D.buf z ≠ none → 0 ≤ z ∧ z < 8 * D.n
  medB : ∀ i, D.med i < 18446744073709551616
  bufB : ∀ z p, D.buf z = some p → p.1 < 18446744073709551616
  fu : 0 ≤ D.fuse ∧ D.fuse ≤ 9223372036854775807
structure DevIs (W : World) (a : DevA) (D : DevS) : Prop where
  head : Holds W a.bd (headOf a D) 102
  med : Holds W a.bm (rowOf (fun i => .int .u64 (D.med i : Int)) (8 * D.n)) 22
  wear : Holds W a.bw (rowOf (fun i => .int .i64 (D.wear i)) D.n) 3
  bad : Holds W a.bg (rowOf (fun i => .bool (D.bad i)) D.n) 4
  buf : MapZ cellE 3 W a.bb D.cnt D.buf
  nd : a.all.Nodup
  ok : DevOk D

section
variable {W W' : World} {a : DevA} {D : DevS}
theorem DevIs.gr {bs : List Nat} (h : DevIs W a D) (g : Gr bs W W') (hn : ∀ b ∈ a.all, b ∉ bs) : DevIs W' a D :=
  ⟨h.head.gr g (hn _ (by simp [DevA.all])), h.med.gr g (hn _ (by simp [DevA.all])), h.wear.gr g (hn _ (by simp [DevA.all])), h.bad.gr g (hn _ (by simp [DevA.all])), h.buf.gr g (hn _ (by simp [DevA.all])), h.nd, h.ok⟩
theorem DevIs.gr0 (h : DevIs W a D) (g : Gr [] W W') : DevIs W' a D := h.gr g (by simp)
theorem DevIs.lt (h : DevIs W a D) : ∀ b ∈ a.all, b < W.heap.size := by
  intro b hb
  simp only [DevA.all, List.mem_cons, List.not_mem_nil, or_false] at hb
  rcases hb with rfl | rfl | rfl | rfl | rfl
  · exact h.head.lt
  · exact h.med.lt
  · exact h.buf.lt
  · exact h.wear.lt
  · exact h.bad.lt
theorem DevIs.c0 (h : DevIs W a D) : W.cell? ⟨a.bd, 0, none⟩ = some (.slice (some ⟨a.bm, 0, none⟩) (8 * D.n) (8 * D.n)) := h.head.cell 0
theorem DevIs.c1 (h : DevIs W a D) : W.cell? ⟨a.bd, 1, none⟩ = some (.map (some a.bb)) := h.head.cell 1
theorem DevIs.c2 (h : DevIs W a D) : W.cell? ⟨a.bd, 2, none⟩ = some (.slice (some ⟨a.bw, 0, none⟩) D.n D.n) := h.head.cell 2
theorem DevIs.c3 (h : DevIs W a D) : W.cell? ⟨a.bd, 3, none⟩ = some (.slice (some ⟨a.bg, 0, none⟩) D.n D.n) := h.head.cell 3
theorem DevIs.c4 (h : DevIs W a D) : W.cell? ⟨a.bd, 4, none⟩ = some (.int .i64 D.fuse) := h.head.cell 4
theorem DevIs.c5 (h : DevIs W a D) : W.cell? ⟨a.bd, 5, none⟩ = some (.bool D.off) := h.head.cell 5
theorem DevIs.c6 (h : DevIs W a D) : W.cell? ⟨a.bd, 6, none⟩ = some (.int .i64 (D.cnt : Int)) := h.head.cell 6
theorem DevIs.fr (h : DevIs W a D) (i : Nat) : W.frozen? ⟨a.bd, i, none⟩ = false := h.head.frozen i
theorem DevIs.medAt (h : DevIs W a D) {i : Nat} (hi : i < 8 * D.n) : W.cell? ⟨a.bm, i, none⟩ = some (.int .u64 (D.med i : Int)) := by rw [h.med.cell, rowOf_get _ _ _ hi]
theorem DevIs.wearAt (h : DevIs W a D) {i : Nat} (hi : i < D.n) : W.cell? ⟨a.bw, i, none⟩ = some (.int .i64 (D.wear i)) := by rw [h.wear.cell, rowOf_get _ _ _ hi]
theorem DevIs.badAt (h : DevIs W a D) {i : Nat} (hi : i < D.n) : W.cell? ⟨a.bg, i, none⟩ = some (.bool (D.bad i)) := by rw [h.bad.cell, rowOf_get _ _ _ hi]
end

/-! ### Calls that only read -/
section
variable (a : DevA) (D : DevS) (w : World) (h : DevIs w a D)
include h
theorem lines_any : Calls Tryz.prog 88 #[.pointer (some ⟨a.bd, 0, none⟩)] w fun e w' => e = .returned (.int .i64 D.n) ∧ w = w' := by
  have c2 := h.c2
  go_enter Tryz.func88, Tryz.ntmps88
  go_wp2
  go_ret
  exact ⟨rfl, rfl⟩
theorem hasWord_any (z : Int) : Calls Tryz.prog 162 #[.pointer (some ⟨a.bd, 0, none⟩), .int .i64 z] w fun e w' => e = .returned (.bool (decide (0 ≤ z ∧ z < 8 * D.n))) ∧ w = w' := by
  have H := Lib.hid (lines_any a D w h)
  have hn := h.ok.hi
  generalize D.n = n at *
  clear h
  by_cases h0 : 0 ≤ z
  · have hd : decide (0 ≤ z) = true := by simpa using h0
    by_cases h1 : z < 8 * n
    · have hd2 : decide (z < (n : Int) * 8) = true := by simp; omega
      rw [decide_eq_true (show 0 ≤ z ∧ z < 8 * n from ⟨h0, h1⟩)]
      go_enter Tryz.func162, Tryz.ntmps162
      go_wp2_with (refine H.out.mono ?_; rintro e w' ⟨rfl, rfl⟩)
      go_ret
      exact ⟨rfl, rfl⟩
    · have hd2 : decide (z < (n : Int) * 8) = false := by simp; omega
      rw [decide_eq_false (show ¬ (0 ≤ z ∧ z < 8 * n) from fun q => h1 q.2)]
      go_enter Tryz.func162, Tryz.ntmps162
      go_wp2_with (refine H.out.mono ?_; rintro e w' ⟨rfl, rfl⟩)
      go_ret
      exact ⟨rfl, rfl⟩
  · have hd : decide (0 ≤ z) = false := by simpa using h0
    rw [decide_eq_false (show ¬ (0 ≤ z ∧ z < 8 * n) from fun q => h0 q.1)]
    go_enter Tryz.func162, Tryz.ntmps162
    go_wp2_with (refine H.out.mono ?_; rintro e w' ⟨rfl, rfl⟩)
    go_ret
    exact ⟨rfl, rfl⟩
theorem hasLine_any (z : Int) : Calls Tryz.prog 70 #[.pointer (some ⟨a.bd, 0, none⟩), .int .i64 z] w fun e w' => e = .returned (.bool (decide (0 ≤ z ∧ z < D.n))) ∧ w = w' := by
  have H := Lib.hid (lines_any a D w h)
  generalize D.n = n at *
  clear h
  by_cases h0 : 0 ≤ z
  · have hd : decide (0 ≤ z) = true := by simpa using h0
    by_cases h1 : z < n
    · have hd2 : decide (z < (n : Int)) = true := by simp; omega
      rw [decide_eq_true (show 0 ≤ z ∧ z < n from ⟨h0, h1⟩)]
      go_enter Tryz.func70, Tryz.ntmps70
      go_wp2_with (refine H.out.mono ?_; rintro e w' ⟨rfl, rfl⟩)
      go_ret
      exact ⟨rfl, rfl⟩
    · have hd2 : decide (z < (n : Int)) = false := by simp; omega
      rw [decide_eq_false (show ¬ (0 ≤ z ∧ z < n) from fun q => h1 q.2)]
      go_enter Tryz.func70, Tryz.ntmps70
      go_wp2_with (refine H.out.mono ?_; rintro e w' ⟨rfl, rfl⟩)
      go_ret
      exact ⟨rfl, rfl⟩
  · have hd : decide (0 ≤ z) = false := by simpa using h0
    rw [decide_eq_false (show ¬ (0 ≤ z ∧ z < n) from fun q => h0 q.1)]
    go_enter Tryz.func70, Tryz.ntmps70
    go_wp2_with (refine H.out.mono ?_; rintro e w' ⟨rfl, rfl⟩)
    go_ret
    exact ⟨rfl, rfl⟩
end

end Go.Proofs.YtefmbchebobceaaGreat

/-
  Calls of package pm that only read, and those that write one field or cell.
-/
namespace Go.Proofs.YtefmbchebobceaaGreat
open Go.RowKit

def reachE (D : DevS) (there : Bool) : Int := if D.off then 6 else if there then 0 else 3
theorem reach_any (a : DevA) (D : DevS) (there : Bool) (w : World) (h : DevIs w a D) : Calls Tryz.prog 123 #[.pointer (some ⟨a.bd, 0, none⟩), .bool there] w fun e w' => e = .returned (.int .i64 (reachE D there)) ∧ w = w' := by
  have c5 := h.c5
  clear h
  unfold reachE
  obtain ⟨off, hoff⟩ : ∃ o, D.off = o := ⟨_, rfl⟩
  rw [hoff] at c5 ⊢
  clear hoff
  cases off with
  | true =>
    go_enter Tryz.func123, Tryz.ntmps123
    go_wp2
    go_ret
    exact ⟨rfl, rfl⟩
  | false =>
    cases there with
    | true =>
      go_enter Tryz.func123, Tryz.ntmps123
      go_wp2
      go_ret
      exact ⟨rfl, rfl⟩
    | false =>
      go_enter Tryz.func123, Tryz.ntmps123
      go_wp2
      go_ret
      exact ⟨rfl, rfl⟩

theorem media_in (a : DevA) (D : DevS) (i : Nat) (w : World) (h : DevIs w a D) (hi : i < 8 * D.n) : Calls Tryz.prog 104 #[.pointer (some ⟨a.bd, 0, none⟩), .int .i64 i] w fun e w' => e = .returned (.int .u64 (D.med i : Int)) ∧ w = w' := by
  have hh := hasWord_any a D w h i
  have hn := h.ok.hi
  have c0 := h.c0
  have m := h.medAt hi
  rw [decide_eq_true (by omega)] at hh
  have H := Lib.hid hh
  clear hh h
  generalize D.n = n at *
  go_enter Tryz.func104, Tryz.ntmps104
  go_wp2_with (refine H.out.mono ?_; rintro e w' ⟨rfl, rfl⟩)
  go_ret
  exact ⟨rfl, rfl⟩
/-! ### A field or a cell is written -/
section
variable {W : World} {a : DevA} {D : DevS}
theorem nd5 {a : DevA} (h : a.all.Nodup) : a.bd ≠ a.bm ∧ a.bd ≠ a.bb ∧ a.bd ≠ a.bw ∧ a.bd ≠ a.bg ∧ a.bm ≠ a.bb ∧ a.bm ≠ a.bw ∧ a.bm ≠ a.bg ∧ a.bb ≠ a.bw ∧ a.bb ≠ a.bg ∧ a.bw ≠ a.bg := by
  simp only [DevA.all, List.nodup_cons, List.mem_cons, List.not_mem_nil, or_false, not_or, List.nodup_nil, and_true, not_false_eq_true] at h
  obtain ⟨⟨h1, h2, h3, h4⟩, ⟨h5, h6, h7⟩, ⟨h8, h9⟩, h10⟩ := h
  exact ⟨h1, h2, h3, h4, h5, h6, h7, h8, h9, h10⟩
theorem grSet (W : World) (b i : Nat) (v : Value) : Gr [b] W (W.setCell ⟨b, i, none⟩ v) := (Gr.refl _ _).setCell (p := ⟨b, i, none⟩) (.inl (by simp)) _
theorem DevIs.setFuse (h : DevIs W a D) (x : Int) (h0 : 0 ≤ x) (h1 : x ≤ 9223372036854775807) : DevIs (W.setCell ⟨a.bd, 4, none⟩ (.int .i64 x)) a { D with fuse := x } := by
  obtain ⟨n1, n2, n3, n4, _⟩ := nd5 h.nd
  have g := grSet W a.bd 4 (.int .i64 x)
  exact ⟨h.head.set 4 _, h.med.gr g (by simpa using n1.symm), h.wear.gr g (by simpa using n3.symm), h.bad.gr g (by simpa using n4.symm), h.buf.gr g (by simpa using n2.symm), h.nd, ⟨h.ok.lo, h.ok.hi, h.ok.sup, h.ok.medB, h.ok.bufB, h0, h1⟩⟩
theorem DevIs.setOff (h : DevIs W a D) (x : Bool) : DevIs (W.setCell ⟨a.bd, 5, none⟩ (.bool x)) a { D with off := x } := by
  obtain ⟨n1, n2, n3, n4, _⟩ := nd5 h.nd
  have g := grSet W a.bd 5 (.bool x)
  exact ⟨h.head.set 5 _, h.med.gr g (by simpa using n1.symm), h.wear.gr g (by simpa using n3.symm), h.bad.gr g (by simpa using n4.symm), h.buf.gr g (by simpa using n2.symm), h.nd, ⟨h.ok.lo, h.ok.hi, h.ok.sup, h.ok.medB, h.ok.bufB, h.ok.fu⟩⟩
theorem DevIs.setCnt (h : DevIs W a D) (x : Nat) (hx : D.cnt ≤ x) : DevIs (W.setCell ⟨a.bd, 6, none⟩ (.int .i64 (x : Int))) a { D with cnt := x } := by
  obtain ⟨n1, n2, n3, n4, _⟩ := nd5 h.nd
  have g := grSet W a.bd 6 (.int .i64 (x : Int))
  exact ⟨h.head.set 6 _, h.med.gr g (by simpa using n1.symm), h.wear.gr g (by simpa using n3.symm), h.bad.gr g (by simpa using n4.symm), (h.buf.gr g (by simpa using n2.symm)).mono hx, h.nd, ⟨h.ok.lo, h.ok.hi, h.ok.sup, h.ok.medB, h.ok.bufB, h.ok.fu⟩⟩
theorem DevIs.setMed (h : DevIs W a D) (i : Nat) (x : Nat) (hx : x < 18446744073709551616) : DevIs (W.setCell ⟨a.bm, i, none⟩ (.int .u64 (x : Int))) a { D with med := fun j => if j = i then x else D.med j } := by
  obtain ⟨n1, _, _, _, n5, n6, n7, _⟩ := nd5 h.nd
  have g := grSet W a.bm i (.int .u64 (x : Int))
  have r := h.med.set i (.int .u64 (x : Int))
  rw [rowOf_set] at r
  refine ⟨h.head.gr g (by simpa using n1), ?_, h.wear.gr g (by simpa using n6.symm), h.bad.gr g (by simpa using n7.symm), h.buf.gr g (by simpa using n5.symm), h.nd, ⟨h.ok.lo, h.ok.hi, h.ok.sup, ?_, h.ok.bufB, h.ok.fu⟩⟩
  · have e : (fun j => if j = i then Value.int IntKind.u64 (x : Int) else Value.int IntKind.u64 (D.med j : Int)) = fun j => Value.int IntKind.u64 ((if j = i then x else D.med j : Nat) : Int) := by funext j; split <;> rfl
    rw [e] at r
    exact r
  · intro j
    show (if j = i then x else D.med j) < _
    split
    · exact hx
    · exact h.ok.medB j
theorem DevIs.setWear (h : DevIs W a D) (i : Nat) (x : Int) : DevIs (W.setCell ⟨a.bw, i, none⟩ (.int .i64 x)) a { D with wear := fun j => if j = i then x else D.wear j } := by
  obtain ⟨_, _, n3, _, _, n6, _, n8, _, n10⟩ := nd5 h.nd
  have g := grSet W a.bw i (.int .i64 x)
  have r := h.wear.set i (.int .i64 x)
  rw [rowOf_set] at r
  refine ⟨h.head.gr g (by simpa using n3), h.med.gr g (by simpa using n6), ?_, h.bad.gr g (by simpa using n10.symm), h.buf.gr g (by simpa using n8), h.nd, ⟨h.ok.lo, h.ok.hi, h.ok.sup, h.ok.medB, h.ok.bufB, h.ok.fu⟩⟩
  have e : (fun j => if j = i then Value.int IntKind.i64 x else Value.int IntKind.i64 (D.wear j)) = fun j => Value.int IntKind.i64 (if j = i then x else D.wear j) := by funext j; split <;> rfl
  rw [e] at r
  exact r
theorem DevIs.setBuf {W' : World} {f : Int → Option (Nat × Bool)} (h : DevIs W a D) (m : MapZ cellE 3 W' a.bb D.cnt f) (g : Gr [a.bb] W W') (hs : ∀ z, f z ≠ none → 0 ≤ z ∧ z < 8 * D.n) (hb : ∀ z p, f z = some p → p.1 < 18446744073709551616) : DevIs W' a { D with buf := f } := by
  obtain ⟨_, n2, _, _, n5, _, _, n8, n9, _⟩ := nd5 h.nd
  exact ⟨h.head.gr g (by simpa using n2), h.med.gr g (by simpa using n5), h.wear.gr g (by simpa using n8.symm), h.bad.gr g (by simpa using n9.symm), m, h.nd, ⟨h.ok.lo, h.ok.hi, hs, h.ok.medB, hb, h.ok.fu⟩⟩
end

end Go.Proofs.YtefmbchebobceaaGreat
