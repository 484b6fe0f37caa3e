/-
  SkAa: Reg, Base, Gr, Map, Pm.
-/
import Derived.WalkKit
import Derived.Handy
import Derived.Lib.Hide
import Derived.Deep.QuietTactic
import Derived.BigQuiet
import Derived.KernelRfl
import Derived.Test.YtifekejcbhllpaaGreatRows
import Derived.Maps.RangeWalk
import Derived.Maps.OwnSet

set_option linter.unusedVariables false

/-
  A region that draws its order, over a class of worlds that an invariant names: a call may make memory if it keeps the invariant.
-/
namespace Go.Proofs.YtifekejcbhllpaaGreat
open Go.RowKit

/-- A world of which I holds. -/
structure Cls (I : World → Prop) where
  w : World
  h : I w
theorem wp_region_cls {P : Program} {id : Nat} {Q : Exit → Act → World → Prop} {a : Act} {w : World} {l : List Oper} (I : World → Prop) (hm : P.follows .mixedOrders = true) (hB : Region.lexB .any l.toArray = true) (hI : I w.drew)
    (h : wpQuiet P l.toArray (fun w' => ∃ x : Cls I, w' = x.w) (fun a' => ∀ w', (∃ x : Cls I, w' = x.w) → Q .normal a' w') l a) : (Code.region id l.toArray true).wp P Q a w :=
  wp_region_quiet (C := fun w' => ∃ x : Cls I, w' = x.w) hm hB ⟨⟨w.drew, hI⟩, rfl⟩ (by simpa using h)
/-- A call within the class. -/
theorem cls_call {P : Program} {f : FuncId} {args : Array Value} {I : World → Prop} {v : Value} (x : Cls I) (h : Calls P f args x.w fun e w' => e = .returned v ∧ Below x.w.heap.size x.w w') (k : ∀ w', Below x.w.heap.size x.w w' → I w') :
    Calls P f args x.w fun e w' => e = .returned v ∧ ∃ y : Cls I, w' = y.w :=
  h.mono fun _ w' ⟨he, hb⟩ => ⟨he, ⟨w', k w' hb⟩, rfl⟩

/-! ### A block that is known whole -/
def Holds (w : World) (b : Nat) (cs : Array Value) (t : TypeId) : Prop := w.heap[b]? = some (.cells cs t (0, 0))
section
variable {w w' : World} {b : Nat} {cs : Array Value} {t : TypeId}
theorem Holds.lt (h : Holds w b cs t) : b < w.heap.size := (Array.getElem?_eq_some_iff.1 h).1
theorem Holds.cell (h : Holds w b cs t) (i : Nat) : w.cell? ⟨b, i, none⟩ = cs[i]? := cell_of_row w b i cs t (0, 0) h
theorem Holds.frozen (h : Holds w b cs t) (i : Nat) : w.frozen? ⟨b, i, none⟩ = false := frozen_of_row w b i cs t h
theorem Holds.below (h : Holds w b cs t) (hb : Below w.heap.size w w') : Holds w' b cs t := (hb.block b h.lt).trans h
theorem Holds.new (w : World) (cs : Array Value) (t : TypeId) : Holds (w.alloc (.cells cs t)) w.heap.size cs t := heap_alloc_new w _
theorem Holds.alloc (h : Holds w b cs t) (o : Obj) : Holds (w.alloc o) b cs t := (Below.heap_alloc w o b h.lt).trans h
theorem Holds.far (h : Holds w b cs t) {a : Addr} (ha : b ≠ a.block) (u : Value) : Holds (w.setCell a u) b cs t := (Below.heap_setCell w a u b ha).trans h
theorem Holds.drew (h : Holds w b cs t) : Holds w.drew b cs t := h
theorem Holds.set (h : Holds w b cs t) (i : Nat) (u : Value) : Holds (w.setCell ⟨b, i, none⟩ u) b (cs.setIfInBounds i u) t := heap_setCell_same w b i cs t u h
theorem Holds.three {x y z : Value} (h : Holds w b #[x, y, z] t) : w.cell? ⟨b, 0, none⟩ = some x ∧ w.cell? ⟨b, 1, none⟩ = some y ∧ w.cell? ⟨b, 2, none⟩ = some z := ⟨h.cell 0, h.cell 1, h.cell 2⟩
end
theorem below_next {w w1 w2 : World} (h : Below w.heap.size w w1) (k : Below w1.heap.size w1 w2) : Below w.heap.size w w2 := h.trans (k.mono h.size)
theorem below_new {w w1 : World} (h : Below w.heap.size w w1) (o : Obj) : Below w.heap.size w (w1.alloc o) := h.alloc h.size o

end Go.Proofs.YtifekejcbhllpaaGreat

/-
  What many texts share: worlds below a bound; max with 0; small arithmetic.
-/
namespace Go.Proofs.YtifekejcbhllpaaGreat
open Go.RowKit

theorem Below_nx {w w1 w2 : World} (h : Below w.heap.size w w1) (k : Below w1.heap.size w1 w2) : Below w.heap.size w w2 := h.trans (k.mono h.size)
theorem natU16 {a : Int} (h : (Lit.int .u16 a).wf = true) : ∃ n : Nat, a = n ∧ n < 65536 := by
  have := bounds_u16 h
  exact ⟨a.toNat, by omega, by omega⟩
theorem made_one (v : Value) (hv : Value.cells v = #[v]) (n : Nat) : (madeCells (Value.cells v) (n * 1)).toList = List.replicate n v := by
  rw [hv]
  apply List.ext_getElem
  · simp [madeCells]
  · intro i h1 h2
    simp [madeCells, Nat.mod_one]

end Go.Proofs.YtifekejcbhllpaaGreat

/-
  What a step leaves as it was: all but the blocks of a list.
-/
namespace Go.Proofs.YtifekejcbhllpaaGreat
open Go.RowKit

/-- w' has all that w has, but what lies in the blocks bs. -/
structure Gr (bs : List Nat) (w w' : World) : Prop where
  os : w'.os = w.os
  tape : w'.tape = w.tape
  output : w'.output = w.output
  size : w.heap.size ≤ w'.heap.size
  block : ∀ k, k < w.heap.size → k ∉ bs → w'.heap[k]? = w.heap[k]?

theorem Gr.refl (bs : List Nat) (w : World) : Gr bs w w := ⟨rfl, rfl, rfl, Nat.le_refl _, fun _ _ _ => rfl⟩
theorem Gr.trans {bs : List Nat} {a b c : World} (h : Gr bs a b) (k : Gr bs b c) : Gr bs a c :=
  ⟨k.os.trans h.os, k.tape.trans h.tape, k.output.trans h.output, Nat.le_trans h.size k.size, fun i hi hn => (k.block i (Nat.lt_of_lt_of_le hi h.size) hn).trans (h.block i hi hn)⟩
theorem Gr.mono {bs cs : List Nat} {w w' : World} (h : Gr bs w w') (hs : ∀ b ∈ bs, b ∈ cs) : Gr cs w w' :=
  ⟨h.os, h.tape, h.output, h.size, fun k hk hn => h.block k hk fun e => hn (hs k e)⟩
theorem Gr.of0 {cs : List Nat} {w w' : World} (h : Gr [] w w') : Gr cs w w' := h.mono fun _ e => by cases e
theorem Gr.ofBelow {cs : List Nat} {w w' : World} (h : Below w.heap.size w w') : Gr cs w w' := ⟨h.os, h.tape, h.output, h.size, fun k hk _ => h.block k hk⟩
theorem Gr.next0 {bs : List Nat} {a b c : World} (h : Gr bs a b) (k : Gr [] b c) : Gr bs a c := h.trans k.of0
theorem Gr.nextB {bs : List Nat} {a b c : World} (h : Gr bs a b) (k : Below b.heap.size b c) : Gr bs a c := h.trans (.ofBelow k)
/-- Blocks that are new since a do not count. -/
theorem Gr.nextN {bs cs : List Nat} {a b c : World} (h : Gr bs a b) (k : Gr cs b c) (hs : ∀ x ∈ cs, x ∈ bs ∨ a.heap.size ≤ x) : Gr bs a c :=
  ⟨k.os.trans h.os, k.tape.trans h.tape, k.output.trans h.output, Nat.le_trans h.size k.size, fun i hi hn => (k.block i (Nat.lt_of_lt_of_le hi h.size) (fun e => by rcases hs i e with q | q; exact hn q; omega)).trans (h.block i hi hn)⟩
theorem Gr.alloc {bs : List Nat} {a w : World} (h : Gr bs a w) (o : Obj) : Gr bs a (w.alloc o) :=
  h.trans ⟨rfl, rfl, rfl, by simp, fun k hk _ => Below.heap_alloc _ _ _ hk⟩
theorem Gr.setCell {bs : List Nat} {a w : World} (h : Gr bs a w) {p : Addr} (hp : p.block ∈ bs ∨ a.heap.size ≤ p.block) (u : Value) : Gr bs a (w.setCell p u) :=
  h.nextN (cs := [p.block]) ⟨rfl, rfl, rfl, by simp [World.setCell], fun k _ hn => Below.heap_setCell _ _ _ _ (fun e => hn (by simp [e]))⟩ (fun x hx => by simp at hx; subst hx; exact hp)
theorem Gr.drew {bs : List Nat} {a w : World} (h : Gr bs a w) : Gr bs a w.drew := ⟨h.os, h.tape, h.output, h.size, h.block⟩
theorem Gr.drewN {bs : List Nat} {a w : World} (h : Gr bs a w) (n : Nat) : Gr bs a (w.drewN n) := ⟨h.os, h.tape, h.output, h.size, h.block⟩
theorem Gr.grown {bs : List Nat} {a w w' : World} {row : Option Nat} (h : Gr bs a w) (hg : w.grownBy w' row) (hr : ∀ k, row = some k → k ∈ bs ∨ a.heap.size ≤ k) : Gr bs a w' :=
  h.nextN (cs := row.toList) ⟨hg.os, hg.tape, hg.output, hg.size, fun k hk hn => hg.block k hk (fun e => hn (by rw [← e]; simp))⟩ (fun x hx => hr x (by simpa using hx))
theorem Gr.below {bs : List Nat} {B : Nat} {w w' : World} (h : Gr bs w w') (hB : B ≤ w.heap.size) (hs : ∀ b ∈ bs, B ≤ b) : Below B w w' :=
  ⟨h.os, h.tape, h.output, h.size, fun k hk => h.block k (by omega) fun e => by have := hs k e; omega⟩
theorem Gr.below0 {w w' : World} (h : Gr [] w w') : Below w.heap.size w w' := h.below (Nat.le_refl _) fun _ e => by cases e
theorem Holds.gr {w w' : World} {b : Nat} {cs : Array Value} {t : TypeId} {bs : List Nat} (h : Holds w b cs t) (k : Gr bs w w') (hn : b ∉ bs) : Holds w' b cs t := (k.block b h.lt hn).trans h
theorem Holds.gr0 {w w' : World} {b : Nat} {cs : Array Value} {t : TypeId} (h : Holds w b cs t) (k : Gr [] w w') : Holds w' b cs t := h.gr k (by simp)
theorem own_gr {w w' : World} {base : Nat} {e : TypeId} {size n : Nat} {v : Value} {xs : List Value} {bs : List Nat} (h : w.ownsRow base e size v n xs) (k : Gr bs w w') (hn : ∀ b, v.ownBlock = some b → b ∉ bs) : w'.ownsRow base e size v n xs := by
  refine ⟨h.1, ?_⟩
  rcases h.2 with hz | ⟨g, cap, cur, rfl, hg, hh, rest⟩
  · exact .inl hz
  · exact .inr ⟨g, cap, cur, rfl, hg, (k.block g (Array.getElem?_eq_some_iff.1 hh).1 (hn g rfl)).trans hh, rest⟩
theorem own_gr0 {w w' : World} {base : Nat} {e : TypeId} {size n : Nat} {v : Value} {xs : List Value} (h : w.ownsRow base e size v n xs) (k : Gr [] w w') : w'.ownsRow base e size v n xs := own_gr h k fun _ _ => by simp

theorem Gr.cell0 {w w' : World} {b o : Nat} (h : Gr [] w w') (hb : b < w.heap.size) : w'.cell? ⟨b, o, none⟩ = w.cell? ⟨b, o, none⟩ := World.cell?_of_block (w := w) (h.block b hb (by simp))
end Go.Proofs.YtifekejcbhllpaaGreat

/-
  Maps keyed by int, as functions of the key: look-up, store, delete, clear, range.
-/
namespace Go.Proofs.YtifekejcbhllpaaGreat
open Go.RowKit
open Go.Maps (Keyed has)

/-- How the elements of a map are written and read. -/
structure EltLaw (P : Program) (e : TypeId) (α : Type) where
  val : α → Value
  enc : α → DataW Unit
  R : Value → Option (DataW Unit × List MemPlace)
  R_mk : ∀ a, R (val a) = some (enc a, [])
  R_inv : ∀ v y, R v = some y → ∃ a, v = val a ∧ y = (enc a, [])
  enc_inj : ∀ a b, enc a = enc b → a = b
  zero : α
  zero_run : ∀ w, (zeroValue e).run P w = .ok (val zero) w

section
variable {P : Program} {k e t : TypeId} {α : Type} {E : EltLaw P e α} {w w' : World} {b n r : Nat}

def WfZ (z : Int) : Prop := (Lit.int .i64 z).wf = true
theorem wfZ {z : Int} (h1 : -9223372036854775808 ≤ z) (h2 : z ≤ 9223372036854775807) : WfZ z := WalkArith.wf_i64 ⟨h1, h2⟩
theorem key_self (z : Int) : (Lit.int IntKind.i64 z).sameKey (.int .i64 z) = true := WideAt.sameKey_self (by simp [WideAt.IsKeyLit])
theorem key_ne {y z : Int} (h : y ≠ z) : (Lit.int IntKind.i64 y).sameKey (.int .i64 z) = false := Maps.sameKey_ne (by intro q; injection q; contradiction)
theorem key_is (y z : Int) : (Lit.int IntKind.i64 y).sameKey (.int .i64 z) = decide (y = z) := by
  by_cases h : y = z
  · subst h; simp [key_self]
  · simp [key_ne h, h]
/-- The datum D is the function f. -/
def MIs (E : EltLaw P e α) (D : DataW Unit) (f : Int → Option α) : Prop := ∀ z, WfZ z → has D (.int .i64 z) = (f z).isSome ∧ ∀ zd, D.atKey (.int .i64 z) zd = ((f z).map E.enc).getD zd
/-- Block b is a map of at most n entries, which is f. -/
def MapZ (E : EltLaw P e α) (k : TypeId) (w : World) (b n : Nat) (f : Int → Option α) : Prop := ∃ D, w.ownsMap P k E.R b n D ∧ MIs E D f
def updZ (f : Int → Option α) (z : Int) (v : Option α) : Int → Option α := fun y => if y = z then v else f y

theorem MIs.put {D : DataW Unit} {f : Int → Option α} (h : MIs E D f) (hD : Maps.IsMap D) (z : Int) (a : α) : MIs E (D.put (.int .i64 z) (E.enc a)) (updZ f z (some a)) := by
  intro y hy
  by_cases q : y = z
  · subst q
    refine ⟨?_, fun zd => ?_⟩
    · rw [Maps.has_put_same hD (by simp [WideAt.IsKeyLit])]; simp [updZ]
    · rw [Maps.atKey_put_same hD (by simp [WideAt.IsKeyLit])]; simp [updZ]
  · have hne : (Lit.int IntKind.i64 y) ≠ .int .i64 z := by intro e; injection e; contradiction
    refine ⟨?_, fun zd => ?_⟩
    · rw [Maps.has_put_other hne, (h y hy).1]; simp [updZ, q]
    · rw [Maps.atKey_put_other hne, (h y hy).2]; simp [updZ, q]
theorem MIs.del {D : DataW Unit} {f : Int → Option α} (h : MIs E D f) (z : Int) : MIs E (D.del (.int .i64 z)) (updZ f z none) := by
  intro y hy
  by_cases q : y = z
  · subst q
    refine ⟨?_, fun zd => ?_⟩
    · rw [Maps.has_del_same]; simp [updZ]
    · rw [Maps.atKey_del_same]; simp [updZ]
  · have hne : (Lit.int IntKind.i64 y) ≠ .int .i64 z := by intro e; injection e; contradiction
    refine ⟨?_, fun zd => ?_⟩
    · rw [Maps.has_del_other hne, (h y hy).1]; simp [updZ, q]
    · rw [Maps.atKey_del_other hne, (h y hy).2]; simp [updZ, q]
theorem MIs.empty : MIs E (.map []) (fun _ => none) := by
  intro y _
  exact ⟨rfl, fun zd => rfl⟩
theorem MIs.some {D : DataW Unit} {f : Int → Option α} (h : MIs E D f) {z : Int} (hz : WfZ z) {a : α} (ha : ∀ zd, D.atKey (.int .i64 z) zd = E.enc a) (hn : has D (.int .i64 z) = true) : f z = .some a := by
  obtain ⟨h1, h2⟩ := h z hz
  rw [hn] at h1
  cases q : f z with
  | none => rw [q] at h1; cases h1
  | some c =>
    have := h2 (E.enc a)
    rw [ha, q] at this
    rw [E.enc_inj _ _ this]

theorem MapZ.lt {f : Int → Option α} (h : MapZ E k w b n f) : b < w.heap.size := by obtain ⟨D, h, _⟩ := h; exact h.lt
theorem MapZ.mono {f : Int → Option α} {m : Nat} (h : MapZ E k w b n f) (hm : n ≤ m) : MapZ E k w b m f := by obtain ⟨D, h, q⟩ := h; exact ⟨D, h.mono hm, q⟩
theorem MapZ.made (w : World) : MapZ E k (w.alloc (.map #[] 0)) w.heap.size 0 (fun _ => none) := ⟨.map [], World.ownsMap_made _ _ _ _, MIs.empty⟩
theorem MapZ.block {f : Int → Option α} (h : MapZ E k w b n f) (hb : w'.heap[b]? = w.heap[b]?) : MapZ E k w' b n f := by
  obtain ⟨D, ⟨es, clock, h1, h2, h3, h4⟩, q⟩ := h
  exact ⟨D, ⟨es, clock, hb.trans h1, h2, h3, h4⟩, q⟩
theorem MapZ.gr {f : Int → Option α} {bs : List Nat} (h : MapZ E k w b n f) (g : Gr bs w w') (hn : b ∉ bs) : MapZ E k w' b n f := h.block (g.block b h.lt hn)
theorem MapZ.gr0 {f : Int → Option α} (h : MapZ E k w b n f) (g : Gr [] w w') : MapZ E k w' b n f := h.gr g (by simp)
theorem Gr.ofGrown {row : Option Nat} (h : w.grownBy w' row) : Gr row.toList w w' := ⟨h.os, h.tape, h.output, h.size, fun i hi hn => h.block i hi (fun e => hn (by rw [← e]; simp))⟩

theorem MapZ.look {f : Int → Option α} (h : MapZ E k w b n f) (hk : P.underlying k = some (.int .i64)) (ht : P.underlying t = some (.map k e)) {z : Int} (hz : WfZ z) :
    (Instr.lookup t (.map (some b)) (.int .i64 z) false).run P w = .ok (E.val ((f z).getD E.zero)) w := by
  obtain ⟨D, h, q⟩ := h
  obtain ⟨v, ps, hrun, hv⟩ := h.lookup (Maps.int_keyed hk) ht (E.zero_run w) (E.R_mk E.zero) (Maps.keyOf_int_mk hk hz)
  obtain ⟨a, rfl, ha⟩ := E.R_inv _ _ hv
  rw [hrun]
  have h2 := (q z hz).2 (E.enc E.zero)
  injection ha with ha _
  rw [ha] at h2
  congr 2
  cases c : f z with
  | none => rw [c] at h2; exact E.enc_inj _ _ h2
  | some x => rw [c] at h2; exact E.enc_inj _ _ h2
theorem MapZ.look_ok {f : Int → Option α} (h : MapZ E k w b n f) (hk : P.underlying k = some (.int .i64)) (ht : P.underlying t = some (.map k e)) {z : Int} (hz : WfZ z) :
    (Instr.lookup t (.map (some b)) (.int .i64 z) true).run P w = .ok (.tuple #[E.val ((f z).getD E.zero), .bool (f z).isSome]) w := by
  obtain ⟨D, h, q⟩ := h
  obtain ⟨v, ps, hrun, hv⟩ := h.look_ok (Maps.int_keyed hk) ht (E.zero_run w) (E.R_mk E.zero) (Maps.keyOf_int_mk hk hz)
  obtain ⟨a, rfl, ha⟩ := E.R_inv _ _ hv
  rw [hrun, (q z hz).1]
  have h2 := (q z hz).2 (E.enc E.zero)
  injection ha with ha _
  rw [ha] at h2
  congr 4
  cases c : f z with
  | none => rw [c] at h2; exact congrArg E.val (E.enc_inj _ _ h2)
  | some x => rw [c] at h2; exact congrArg E.val (E.enc_inj _ _ h2)
end

section
variable {P : Program} {k e t : TypeId} {α : Type} {E : EltLaw P e α} {w : World} {b n r : Nat} {f : Int → Option α} {ops : Array Oper} {rest : List Oper} {o : Oper} {a : Act} {Q : Exit → Act → World → Prop}

/-- 'v, ok := m[z]' -/
theorem wp_lookZ_ok (hg : o.guard = none) (m x : Operand) (hop : o.op = Op.lookup t m x true) (hm : a.eval m = .map (some b)) (h : MapZ E k w b n f) (hk : P.underlying k = some (.int .i64)) (ht : P.underlying t = some (.map k e)) (z : Int) (hx : a.eval x = .int .i64 z) (hz : WfZ z)
    (hK : wpList P ops Q rest (a.put o.dst (.tuple #[E.val ((f z).getD E.zero), .bool (f z).isSome])) w) : wpList P ops Q (o :: rest) a w := by
  refine wpList_plain hg fun K' hK' => ?_
  unfold Oper.wp
  simp [execOp, hop, hm, hx, h.look_ok hk ht hz, Result.andThen]
  exact hK' _ _ hK
/-- The same, what comes back written out. -/
theorem wp_lookZ_oks (hg : o.guard = none) (m x : Operand) (hop : o.op = Op.lookup t m x true) (hm : a.eval m = .map (some b)) (h : MapZ E k w b n f) (hk : P.underlying k = some (.int .i64)) (ht : P.underlying t = some (.map k e)) (z : Int) (hx : a.eval x = .int .i64 z) (hz : WfZ z)
    (V : Value) (hV : Value.tuple #[E.val ((f z).getD E.zero), .bool (f z).isSome] = V) (hK : wpList P ops Q rest (a.put o.dst V) w) : wpList P ops Q (o :: rest) a w :=
  wp_lookZ_ok hg m x hop hm h hk ht z hx hz (by rw [hV]; exact hK)
/-- 'm[z] = v' -/
theorem wp_putZ (hg : o.guard = none) (m x v : Operand) (hop : o.op = Op.mapUpdate t m x v) (hm : a.eval m = .map (some b)) (h : MapZ E k w b n f) (hn : n < maxLen) (hk : P.underlying k = some (.int .i64)) (ht : P.underlying t = some (.map k e)) (z : Int) (hx : a.eval x = .int .i64 z) (hz : WfZ z)
    (c : α) (hv : a.eval v = E.val c) (hK : ∀ w', MapZ E k w' b (n + 1) (updZ f z (some c)) → Gr [b] w w' → w'.heap.size = w.heap.size → wpList P ops Q rest (a.put o.dst undef) w') : wpList P ops Q (o :: rest) a w := by
  obtain ⟨D, h, q⟩ := h
  refine wpList_plain hg fun K' hK' => ?_
  obtain ⟨w', hrun, r1, r2⟩ := h.store (Maps.int_keyed hk) ht hn (Maps.keyOf_int_mk hk hz) (E.R_mk c)
  unfold Oper.wp
  simp [execOp, hop, hm, hx, hv, hrun, Result.andThen]
  have hs : w'.heap.size = w.heap.size := by
    obtain ⟨es, cl, es', cl', _, rfl⟩ := r2
    simp [ChangeMaps.setBlock]
  exact hK' _ _ (hK w' ⟨_, r1, q.put h.isMap z c⟩ (Gr.ofGrown r2.grown) hs)
theorem own_tight {D : DataW Unit} {R : Value → Option (DataW Unit × List MemPlace)} {W : World} {m : Nat} (h : W.ownsMap P k R b m D) : W.ownsMap P k R b (Maps.size D) D := by
  obtain ⟨es, clock, h1, h2, h3, h4⟩ := h
  refine ⟨es, clock, h1, h2, ?_, h4⟩
  rw [h4]
  simp [Maps.size, length_sorted]
/-- 'm[z] = v' where z is there. -/
theorem wp_putZ_old (hg : o.guard = none) (m x v : Operand) (hop : o.op = Op.mapUpdate t m x v) (hm : a.eval m = .map (some b)) (h : MapZ E k w b n f) (hn : n < maxLen) (hk : P.underlying k = some (.int .i64)) (ht : P.underlying t = some (.map k e)) (z : Int) (hx : a.eval x = .int .i64 z) (hz : WfZ z)
    (c : α) (hv : a.eval v = E.val c) (hold : (f z).isSome = true) (hK : ∀ w', MapZ E k w' b n (updZ f z (some c)) → Gr [b] w w' → w'.heap.size = w.heap.size → wpList P ops Q rest (a.put o.dst undef) w') : wpList P ops Q (o :: rest) a w := by
  obtain ⟨D, h, q⟩ := h
  refine wpList_plain hg fun K' hK' => ?_
  obtain ⟨w', hrun, r1, r2⟩ := h.store (Maps.int_keyed hk) ht hn (Maps.keyOf_int_mk hk hz) (E.R_mk c)
  unfold Oper.wp
  simp [execOp, hop, hm, hx, hv, hrun, Result.andThen]
  have hs : w'.heap.size = w.heap.size := by
    obtain ⟨es, cl, es', cl', _, rfl⟩ := r2
    simp [ChangeMaps.setBlock]
  have r3 := own_tight r1
  rw [Maps.size_put (h.tidy (Maps.int_keyed hk)), (q z hz).1, hold] at r3
  exact hK' _ _ (hK w' ⟨_, r3.mono h.size_le, q.put h.isMap z c⟩ (Gr.ofGrown r2.grown) hs)
/-- 'delete(m, z)' -/
theorem wp_delZ (hg : o.guard = none) (m x : Operand) (hop : o.op = Op.call { callee := Callee.builtin Builtin.delete, args := #[m, x], argTypes := #[t, k] }) (hm : a.eval m = .map (some b)) (h : MapZ E k w b n f) (hk : P.underlying k = some (.int .i64)) (ht : P.underlying t = some (.map k e)) (z : Int) (hx : a.eval x = .int .i64 z) (hz : WfZ z)
    (hK : ∀ w', MapZ E k w' b n (updZ f z none) → Gr [b] w w' → w'.heap.size = w.heap.size → wpList P ops Q rest (a.put o.dst (.tuple #[])) w') : wpList P ops Q (o :: rest) a w := by
  obtain ⟨D, h, q⟩ := h
  refine wpList_plain hg fun K' hK' => ?_
  obtain ⟨w', hrun, r1, r2⟩ := h.drop (Maps.int_keyed hk) ht (Maps.keyOf_int_mk hk hz) o.type
  unfold Oper.wp
  simp [execOp, hop, resolve, invoke, builtin, hm, hx, hrun, Result.andThen]
  have hs : w'.heap.size = w.heap.size := by
    obtain ⟨es, cl, es', cl', _, rfl⟩ := r2
    simp [ChangeMaps.setBlock]
  exact hK' _ _ (hK w' ⟨_, r1, q.del z⟩ (Gr.ofGrown r2.grown) hs)

/-! ### range -/
def RanZ (E : EltLaw P e α) (k : TypeId) (w : World) (b r n : Nat) (f : Int → Option α) (left : Int → Bool) (cnt : Nat) : Prop :=
  ∃ D L, w.ranges P k E.R b r n D L cnt ∧ MIs E D f ∧ ∀ z, WfZ z → L (.int .i64 z) = left z
theorem RanZ.map {left : Int → Bool} {cnt : Nat} (h : RanZ E k w b r n f left cnt) : MapZ E k w b n f := by obtain ⟨D, L, h, q, _⟩ := h; exact ⟨D, h.owns, q⟩
theorem RanZ.lt {left : Int → Bool} {cnt : Nat} (h : RanZ E k w b r n f left cnt) : r < w.heap.size := by obtain ⟨D, L, h, _⟩ := h; exact h.lt
theorem RanZ.gr {w' : World} {left : Int → Bool} {cnt : Nat} {bs : List Nat} (h : RanZ E k w b r n f left cnt) (g : Gr bs w w') (h1 : b ∉ bs) (h2 : r ∉ bs) : RanZ E k w' b r n f left cnt := by
  have hb := g.block b h.map.lt h1
  have hr := g.block r h.lt h2
  obtain ⟨D, L, ⟨es, clock, since, seen, c0, q1, q2, q3, q4, q5, q6, q7, q8, q9⟩, rest⟩ := h
  exact ⟨D, L, ⟨es, clock, since, seen, c0, hb.trans q1, q2, q3, q4, hr.trans q5, q6, q7, q8, q9⟩, rest⟩
theorem RanZ.gr0 {w' : World} {left : Int → Bool} {cnt : Nat} (h : RanZ E k w b r n f left cnt) (g : Gr [] w w') : RanZ E k w' b r n f left cnt := h.gr g (by simp) (by simp)
/-- 'range m' -/
theorem wp_rangeZ (hg : o.guard = none) (m : Operand) (hop : o.op = Op.range t m) (hm : a.eval m = .map (some b)) (h : MapZ E k w b n f) (hk : P.underlying k = some (.int .i64)) (ht : P.underlying t = some (.map k e))
    (hK : ∀ w' cnt, RanZ E k w' b w.heap.size n f (fun z => (f z).isSome) cnt → Gr [] w w' → w'.heap.size = w.heap.size + 1 → wpList P ops Q rest (a.put o.dst (.pointer (some ⟨w.heap.size, 0, none⟩))) w') : wpList P ops Q (o :: rest) a w := by
  obtain ⟨D, h, q⟩ := h
  refine wpList_plain hg fun K' hK' => ?_
  obtain ⟨w', hrun, r1, r2, r3⟩ := h.range (Maps.int_keyed hk) ht
  unfold Oper.wp
  simp [execOp, hop, hm, hrun, Result.andThen]
  exact hK' _ _ (hK w' _ ⟨D, _, r1, q, fun z hz => (q z hz).1⟩ (Gr.ofGrown r2) r3)
/-- the next entry -/
theorem wp_nextZ (hg : o.guard = none) (it : Operand) (hop : o.op = Op.next it false) (hit : a.eval it = .pointer (some ⟨r, 0, none⟩)) {left : Int → Bool} {cnt : Nat} (h : RanZ E k w b r n f left cnt) (hk : P.underlying k = some (.int .i64))
    (hDone : (∀ z, WfZ z → left z = false) → wpList P ops Q rest (a.put o.dst (.tuple #[.bool false])) w)
    (hMore : ∀ (z : Int) (c : α) (w' : World) (cnt' : Nat), WfZ z → left z = true → f z = some c → RanZ E k w' b r n f (fun y => left y && decide (y ≠ z)) cnt' → cnt' < cnt → Gr [r] w w' → w'.heap.size = w.heap.size →
      (Instr.entry (.pointer (some ⟨r, 0, none⟩))).run P w' = .ok (.tuple #[.int .i64 z, E.val c]) w' → wpList P ops Q rest (a.put o.dst (.tuple #[.bool true, .int .i64 z, E.val c])) w') :
    wpList P ops Q (o :: rest) a w := by
  obtain ⟨D, L, h, q, hL⟩ := h
  refine wpList_plain hg fun K' hK' => ?_
  unfold Oper.wp
  rcases h.next (Maps.int_keyed hk) o.type with ⟨h0, hl, hrun⟩ | ⟨key, v, kl, y, w', cnt', hkey, hlk, hv, hat, hrun, hrg, hlt, hgr, hsz, hen⟩
  · simp [execOp, hop, hit, hrun, Result.andThen]
    exact hK' _ _ (hDone fun z hz => by rw [← hL z hz]; exact hl _)
  · obtain ⟨z, rfl, rfl, hz⟩ := Maps.keyOf_int_inv hk hkey
    obtain ⟨c, rfl, rfl⟩ := E.R_inv _ _ hv
    have hh : has D (.int .i64 z) = true := Maps.has_true_of_atKey (y := E.enc c) hat
    simp [execOp, hop, hit, hrun, Result.andThen]
    refine hK' _ _ (hMore z c w' cnt' hz (by rw [← hL z hz]; exact hlk) (q.some hz hat hh) ⟨D, _, hrg, q, fun y hy => ?_⟩ hlt (Gr.ofGrown hgr) hsz hen)
    show (L (.int .i64 y) && !(Lit.int .i64 y).sameKey (.int .i64 z)) = _
    rw [hL y hy, key_is]
    simp
end

end Go.Proofs.YtifekejcbhllpaaGreat

/-
  A device of package pm as a function of words and lines; its simple calls.
-/
namespace Go.Proofs.YtifekejcbhllpaaGreat
open Go.RowKit

/-! ### Rows as functions -/
def rowOf (g : Nat → Value) (n : Nat) : Array Value := (Array.range n).map g
theorem rowOf_get (g : Nat → Value) (n i : Nat) (h : i < n) : (rowOf g n)[i]? = some (g i) := by
  unfold rowOf
  rw [Array.getElem?_map, Array.getElem?_range]
  simp [h]
theorem rowOf_set (g : Nat → Value) (n i : Nat) (v : Value) : (rowOf g n).setIfInBounds i v = rowOf (fun j => if j = i then v else g j) n := by
  apply Array.ext
  · simp [rowOf]
  · intro j h1 h2
    have hj : j < n := by simpa [rowOf] using h2
    rw [Array.getElem_setIfInBounds (by simpa [rowOf] using hj)]
    by_cases e : i = j
    · subst e; simp [rowOf]
    · rw [if_neg e]
      have e2 : ¬ j = i := fun q => e q.symm
      simp [rowOf, e2]
theorem rowOf_congr {g g' : Nat → Value} {n : Nat} (h : ∀ i, i < n → g i = g' i) : rowOf g n = rowOf g' n := by
  apply Array.ext
  · simp [rowOf]
  · intro j h1 h2
    have hj : j < n := by simpa [rowOf] using h2
    simp [rowOf, h j hj]
theorem rowOf_made (v : Value) (hv : Value.cells v = #[v]) (n : Nat) : (madeCells (Value.cells v) (n * 1)).toList.toArray = rowOf (fun _ => v) n := by
  rw [made_one v hv]
  apply Array.ext
  · simp [rowOf]
  · intro i h1 h2
    simp [rowOf]

/-! ### The state -/
structure DevS where
  n : Nat
  med : Nat → Nat
  buf : Int → Option (Nat × Bool)
  wear : Nat → Int
  bad : Nat → Bool
  fuse : Int
  off : Bool
  cnt : Nat

def cellVal (p : Nat × Bool) : Value := .agg #[.int .u64 (p.1 : Int), .bool p.2]
def cellEnc (p : Nat × Bool) : DataW Unit := .agg [.lit (.int .u64 (p.1 : Int)), .lit (.bool p.2)]
def cellR : Value → Option (DataW Unit × List MemPlace)
  | .agg cs => match cs.toList with
    | [.int .u64 (.ofNat v), .bool f] => some (cellEnc (v, f), [])
    | _ => none
  | _ => none
theorem cellR_mk (p : Nat × Bool) : cellR (cellVal p) = some (cellEnc p, []) := rfl
theorem cellR_inv (v : Value) (y : DataW Unit × List MemPlace) (h : cellR v = some y) : ∃ a, v = cellVal a ∧ y = (cellEnc a, []) := by
  unfold cellR at h
  split at h
  · rename_i cs
    split at h
    · rename_i v f hl
      cases h
      refine ⟨(v, f), ?_, rfl⟩
      unfold cellVal
      congr 1
      apply Array.ext'
      exact hl
    · cases h
  · cases h
noncomputable def cellE : EltLaw Tryz.prog 150 (Nat × Bool) where
  val := cellVal
  enc := cellEnc
  R := cellR
  R_mk := cellR_mk
  R_inv := cellR_inv
  enc_inj := by
    intro a b h
    unfold cellEnc at h
    obtain ⟨a1, a2⟩ := a
    obtain ⟨b1, b2⟩ := b
    simp at h
    have h1 : a1 = b1 := by have := h.1; omega
    rw [h1, h.2]
  zero := (0, false)
  zero_run := fun _ => by kernel_rfl

/-- The blocks of a device. -/
structure DevA where
  bd : Nat
  bm : Nat
  bb : Nat
  bw : Nat
  bg : Nat
def DevA.all (a : DevA) : List Nat := [a.bd, a.bm, a.bb, a.bw, a.bg]
def headOf (a : DevA) (D : DevS) : Array Value :=
  #[.slice (some ⟨a.bm, 0, none⟩) (8 * D.n) (8 * D.n), .map (some a.bb), .slice (some ⟨a.bw, 0, none⟩) D.n D.n, .slice (some ⟨a.bg, 0, none⟩) D.n D.n, .int .i64 D.fuse, .bool D.off, .int .i64 (D.cnt : Int)]
/-- What a state keeps to. -/
structure DevOk (D : DevS) : Prop where
  lo : 1 ≤ D.n
  hi : D.n ≤ 8192
  sup : ∀ z, D.buf z ≠ none → 0 ≤ z ∧ z < 8 * D.n
  medB : ∀ i, D.med i < 18446744073709551616
  bufB : ∀ z p, D.buf z = some p → p.1 < 18446744073709551616
  fu : 0 ≤ D.fuse ∧ D.fuse ≤ 9223372036854775807
/-- A device in memory. -/
structure DevIs (W : World) (a : DevA) (D : DevS) : Prop where
  head : Holds W a.bd (headOf a D) 110
  med : Holds W a.bm (rowOf (fun i => .int .u64 (D.med i : Int)) (8 * D.n)) 22
  wear : Holds W a.bw (rowOf (fun i => .int .i64 (D.wear i)) D.n) 3
  bad : Holds W a.bg (rowOf (fun i => .bool (D.bad i)) D.n) 4
  buf : MapZ cellE 3 W a.bb D.cnt D.buf
  nd : a.all.Nodup
  ok : DevOk D

section
variable {W W' : World} {a : DevA} {D : DevS}
theorem DevIs.gr {bs : List Nat} (h : DevIs W a D) (g : Gr bs W W') (hn : ∀ b ∈ a.all, b ∉ bs) : DevIs W' a D :=
  ⟨h.head.gr g (hn _ (by simp [DevA.all])), h.med.gr g (hn _ (by simp [DevA.all])), h.wear.gr g (hn _ (by simp [DevA.all])), h.bad.gr g (hn _ (by simp [DevA.all])), h.buf.gr g (hn _ (by simp [DevA.all])), h.nd, h.ok⟩
theorem DevIs.gr0 (h : DevIs W a D) (g : Gr [] W W') : DevIs W' a D := h.gr g (by simp)
theorem DevIs.lt (h : DevIs W a D) : ∀ b ∈ a.all, b < W.heap.size := by
  intro b hb
  simp only [DevA.all, List.mem_cons, List.not_mem_nil, or_false] at hb
  rcases hb with rfl | rfl | rfl | rfl | rfl
  · exact h.head.lt
  · exact h.med.lt
  · exact h.buf.lt
  · exact h.wear.lt
  · exact h.bad.lt
theorem DevIs.c0 (h : DevIs W a D) : W.cell? ⟨a.bd, 0, none⟩ = some (.slice (some ⟨a.bm, 0, none⟩) (8 * D.n) (8 * D.n)) := h.head.cell 0
theorem DevIs.c1 (h : DevIs W a D) : W.cell? ⟨a.bd, 1, none⟩ = some (.map (some a.bb)) := h.head.cell 1
theorem DevIs.c2 (h : DevIs W a D) : W.cell? ⟨a.bd, 2, none⟩ = some (.slice (some ⟨a.bw, 0, none⟩) D.n D.n) := h.head.cell 2
theorem DevIs.c3 (h : DevIs W a D) : W.cell? ⟨a.bd, 3, none⟩ = some (.slice (some ⟨a.bg, 0, none⟩) D.n D.n) := h.head.cell 3
theorem DevIs.c4 (h : DevIs W a D) : W.cell? ⟨a.bd, 4, none⟩ = some (.int .i64 D.fuse) := h.head.cell 4
theorem DevIs.c5 (h : DevIs W a D) : W.cell? ⟨a.bd, 5, none⟩ = some (.bool D.off) := h.head.cell 5
theorem DevIs.c6 (h : DevIs W a D) : W.cell? ⟨a.bd, 6, none⟩ = some (.int .i64 (D.cnt : Int)) := h.head.cell 6
theorem DevIs.fr (h : DevIs W a D) (i : Nat) : W.frozen? ⟨a.bd, i, none⟩ = false := h.head.frozen i
theorem DevIs.medAt (h : DevIs W a D) {i : Nat} (hi : i < 8 * D.n) : W.cell? ⟨a.bm, i, none⟩ = some (.int .u64 (D.med i : Int)) := by rw [h.med.cell, rowOf_get _ _ _ hi]
theorem DevIs.wearAt (h : DevIs W a D) {i : Nat} (hi : i < D.n) : W.cell? ⟨a.bw, i, none⟩ = some (.int .i64 (D.wear i)) := by rw [h.wear.cell, rowOf_get _ _ _ hi]
theorem DevIs.badAt (h : DevIs W a D) {i : Nat} (hi : i < D.n) : W.cell? ⟨a.bg, i, none⟩ = some (.bool (D.bad i)) := by rw [h.bad.cell, rowOf_get _ _ _ hi]
end

/-! ### Calls that only read -/
section
variable (a : DevA) (D : DevS) (w : World) (h : DevIs w a D)
include h
theorem lines_any : Calls Tryz.prog 76 #[.pointer (some ⟨a.bd, 0, none⟩)] w fun e w' => e = .returned (.int .i64 D.n) ∧ w = w' := by
  have c2 := h.c2
  go_enter Tryz.func76, Tryz.ntmps76
  go_wp2
  go_ret
  exact ⟨rfl, rfl⟩
theorem hasWord_any (z : Int) : Calls Tryz.prog 148 #[.pointer (some ⟨a.bd, 0, none⟩), .int .i64 z] w fun e w' => e = .returned (.bool (decide (0 ≤ z ∧ z < 8 * D.n))) ∧ w = w' := by
  have H := Lib.hid (lines_any a D w h)
  have hn := h.ok.hi
  generalize D.n = n at *
  clear h
  by_cases h0 : 0 ≤ z
  · have hd : decide (0 ≤ z) = true := by simpa using h0
    by_cases h1 : z < 8 * n
    · have hd2 : decide (z < (n : Int) * 8) = true := by simp; omega
      rw [decide_eq_true (show 0 ≤ z ∧ z < 8 * n from ⟨h0, h1⟩)]
      go_enter Tryz.func148, Tryz.ntmps148
      go_wp2_with (refine H.out.mono ?_; rintro e w' ⟨rfl, rfl⟩)
      go_ret
      exact ⟨rfl, rfl⟩
    · have hd2 : decide (z < (n : Int) * 8) = false := by simp; omega
      rw [decide_eq_false (show ¬ (0 ≤ z ∧ z < 8 * n) from fun q => h1 q.2)]
      go_enter Tryz.func148, Tryz.ntmps148
      go_wp2_with (refine H.out.mono ?_; rintro e w' ⟨rfl, rfl⟩)
      go_ret
      exact ⟨rfl, rfl⟩
  · have hd : decide (0 ≤ z) = false := by simpa using h0
    rw [decide_eq_false (show ¬ (0 ≤ z ∧ z < 8 * n) from fun q => h0 q.1)]
    go_enter Tryz.func148, Tryz.ntmps148
    go_wp2_with (refine H.out.mono ?_; rintro e w' ⟨rfl, rfl⟩)
    go_ret
    exact ⟨rfl, rfl⟩
theorem hasLine_any (z : Int) : Calls Tryz.prog 46 #[.pointer (some ⟨a.bd, 0, none⟩), .int .i64 z] w fun e w' => e = .returned (.bool (decide (0 ≤ z ∧ z < D.n))) ∧ w = w' := by
  have H := Lib.hid (lines_any a D w h)
  generalize D.n = n at *
  clear h
  by_cases h0 : 0 ≤ z
  · have hd : decide (0 ≤ z) = true := by simpa using h0
    by_cases h1 : z < n
    · have hd2 : decide (z < (n : Int)) = true := by simp; omega
      rw [decide_eq_true (show 0 ≤ z ∧ z < n from ⟨h0, h1⟩)]
      go_enter Tryz.func46, Tryz.ntmps46
      go_wp2_with (refine H.out.mono ?_; rintro e w' ⟨rfl, rfl⟩)
      go_ret
      exact ⟨rfl, rfl⟩
    · have hd2 : decide (z < (n : Int)) = false := by simp; omega
      rw [decide_eq_false (show ¬ (0 ≤ z ∧ z < n) from fun q => h1 q.2)]
      go_enter Tryz.func46, Tryz.ntmps46
      go_wp2_with (refine H.out.mono ?_; rintro e w' ⟨rfl, rfl⟩)
      go_ret
      exact ⟨rfl, rfl⟩
  · have hd : decide (0 ≤ z) = false := by simpa using h0
    rw [decide_eq_false (show ¬ (0 ≤ z ∧ z < n) from fun q => h0 q.1)]
    go_enter Tryz.func46, Tryz.ntmps46
    go_wp2_with (refine H.out.mono ?_; rintro e w' ⟨rfl, rfl⟩)
    go_ret
    exact ⟨rfl, rfl⟩
end

end Go.Proofs.YtifekejcbhllpaaGreat
