/-
  TaAa: Reg, Base, Gr, Map, MapT.
-/
import Derived.WalkKit
import Derived.Handy
import Derived.Lib.Hide
import Derived.Deep.QuietTactic
import Derived.BigQuiet
import Derived.KernelRfl
import Derived.Test.YtgleopahldpajaaGreatRows
import Derived.Maps.RangeWalk
import Derived.Maps.OwnSet
import Derived.StringKeys

set_option linter.unusedVariables false

/-
  A region that draws its order, over a class of worlds that an invariant names: a call may make memory if it keeps the invariant.
-/
namespace Go.Proofs.YtgleopahldpajaaGreat
open Go.RowKit

/-- A world of which I holds. -/
structure Cls (I : World → Prop) where
  w : World
  h : I w
theorem wp_region_cls {P : Program} {id : Nat} {Q : Exit → Act → World → Prop} {a : Act} {w : World} {l : List Oper} (I : World → Prop) (hm : P.follows .mixedOrders = true) (hB : Region.lexB .any l.toArray = true) (hI : I w.drew)
    (h : wpQuiet P l.toArray (fun w' => ∃ x : Cls I, w' = x.w) (fun a' => ∀ w', (∃ x : Cls I, w' = x.w) → Q .normal a' w') l a) : (Code.region id l.toArray true).wp P Q a w :=
  wp_region_quiet (C := fun w' => ∃ x : Cls I, w' = x.w) hm hB ⟨⟨w.drew, hI⟩, rfl⟩ (by simpa using h)
/-- A call within the class. -/
theorem cls_call {P : Program} {f : FuncId} {args : Array Value} {I : World → Prop} {v : Value} (x : Cls I) (h : Calls P f args x.w fun e w' => e = .returned v ∧ Below x.w.heap.size x.w w') (k : ∀ w', Below x.w.heap.size x.w w' → I w') :
    Calls P f args x.w fun e w' => e = .returned v ∧ ∃ y : Cls I, w' = y.w :=
  h.mono fun _ w' ⟨he, hb⟩ => ⟨he, ⟨w', k w' hb⟩, rfl⟩

/-! ### A block that is known whole -/
def Holds (w : World) (b : Nat) (cs : Array Value) (t : TypeId) : Prop := w.heap[b]? = some (.cells cs t (0, 0))
section
variable {w w' : World} {b : Nat} {cs : Array Value} {t : TypeId}
theorem Holds.lt (h : Holds w b cs t) : b < w.heap.size := (Array.getElem?_eq_some_iff.1 h).1
theorem Holds.cell (h : Holds w b cs t) (i : Nat) : w.cell? ⟨b, i, none⟩ = cs[i]? := cell_of_row w b i cs t (0, 0) h
theorem Holds.frozen (h : Holds w b cs t) (i : Nat) : w.frozen? ⟨b, i, none⟩ = false := frozen_of_row w b i cs t h
theorem Holds.below (h : Holds w b cs t) (hb : Below w.heap.size w w') : Holds w' b cs t := (hb.block b h.lt).trans h
theorem Holds.new (w : World) (cs : Array Value) (t : TypeId) : Holds (w.alloc (.cells cs t)) w.heap.size cs t := heap_alloc_new w _
theorem Holds.alloc (h : Holds w b cs t) (o : Obj) : Holds (w.alloc o) b cs t := (Below.heap_alloc w o b h.lt).trans h
theorem Holds.far (h : Holds w b cs t) {a : Addr} (ha : b ≠ a.block) (u : Value) : Holds (w.setCell a u) b cs t := (Below.heap_setCell w a u b ha).trans h
theorem Holds.set (h : Holds w b cs t) (i : Nat) (u : Value) : Holds (w.setCell ⟨b, i, none⟩ u) b (cs.setIfInBounds i u) t := heap_setCell_same w b i cs t u h
end
theorem below_next {w w1 w2 : World} (h : Below w.heap.size w w1) (k : Below w1.heap.size w1 w2) : Below w.heap.size w w2 := h.trans (k.mono h.size)
end Go.Proofs.YtgleopahldpajaaGreat

/-
  What many texts share: worlds below a bound; max with 0; small arithmetic.
-/
namespace Go.Proofs.YtgleopahldpajaaGreat
open Go.RowKit

theorem own_keep {w w' : World} {base : Nat} {e : TypeId} {size n : Nat} {v : Value} {xs : List Value} (h : w.ownsRow base e size v n xs) (hb : Below w.heap.size w w') : w'.ownsRow base e size v n xs := by
  refine ⟨h.1, ?_⟩
  rcases h.2 with hn | ⟨g, cap, cur, rfl, hg, hh, rest⟩
  · exact .inl hn
  · exact .inr ⟨g, cap, cur, rfl, hg, (hb.block g (Array.getElem?_eq_some_iff.1 hh).1).trans hh, rest⟩
theorem made_one (v : Value) (hv : Value.cells v = #[v]) (n : Nat) : (madeCells (Value.cells v) (n * 1)).toList = List.replicate n v := by
  rw [hv]
  apply List.ext_getElem
  · simp [madeCells]
  · intro i h1 h2
    simp [madeCells, Nat.mod_one]

end Go.Proofs.YtgleopahldpajaaGreat

/-
  What a step leaves as it was: all but the blocks of a list.
-/
namespace Go.Proofs.YtgleopahldpajaaGreat
open Go.RowKit

/-- w' has all that w has, but what lies in the blocks bs. -/
structure Gr (bs : List Nat) (w w' : World) : Prop where
  os : w'.os = w.os
  tape : w'.tape = w.tape
  output : w'.output = w.output
  size : w.heap.size ≤ w'.heap.size
  block : ∀ k, k < w.heap.size → k ∉ bs → w'.heap[k]? = w.heap[k]?

theorem Gr.refl (bs : List Nat) (w : World) : Gr bs w w := ⟨rfl, rfl, rfl, Nat.le_refl _, fun _ _ _ => rfl⟩
theorem Gr.trans {bs : List Nat} {a b c : World} (h : Gr bs a b) (k : Gr bs b c) : Gr bs a c :=
  ⟨k.os.trans h.os, k.tape.trans h.tape, k.output.trans h.output, Nat.le_trans h.size k.size, fun i hi hn => (k.block i (Nat.lt_of_lt_of_le hi h.size) hn).trans (h.block i hi hn)⟩
theorem Gr.mono {bs cs : List Nat} {w w' : World} (h : Gr bs w w') (hs : ∀ b ∈ bs, b ∈ cs) : Gr cs w w' :=
  ⟨h.os, h.tape, h.output, h.size, fun k hk hn => h.block k hk fun e => hn (hs k e)⟩
theorem Gr.of0 {cs : List Nat} {w w' : World} (h : Gr [] w w') : Gr cs w w' := h.mono fun _ e => by cases e
theorem Gr.ofBelow {cs : List Nat} {w w' : World} (h : Below w.heap.size w w') : Gr cs w w' := ⟨h.os, h.tape, h.output, h.size, fun k hk _ => h.block k hk⟩
theorem Gr.next0 {bs : List Nat} {a b c : World} (h : Gr bs a b) (k : Gr [] b c) : Gr bs a c := h.trans k.of0
theorem Gr.nextB {bs : List Nat} {a b c : World} (h : Gr bs a b) (k : Below b.heap.size b c) : Gr bs a c := h.trans (.ofBelow k)
/-- Blocks that are new since a do not count. -/
theorem Gr.nextN {bs cs : List Nat} {a b c : World} (h : Gr bs a b) (k : Gr cs b c) (hs : ∀ x ∈ cs, x ∈ bs ∨ a.heap.size ≤ x) : Gr bs a c :=
  ⟨k.os.trans h.os, k.tape.trans h.tape, k.output.trans h.output, Nat.le_trans h.size k.size, fun i hi hn => (k.block i (Nat.lt_of_lt_of_le hi h.size) (fun e => by rcases hs i e with q | q; exact hn q; omega)).trans (h.block i hi hn)⟩
theorem Gr.alloc {bs : List Nat} {a w : World} (h : Gr bs a w) (o : Obj) : Gr bs a (w.alloc o) :=
  h.trans ⟨rfl, rfl, rfl, by simp, fun k hk _ => Below.heap_alloc _ _ _ hk⟩
theorem Gr.setCell {bs : List Nat} {a w : World} (h : Gr bs a w) {p : Addr} (hp : p.block ∈ bs ∨ a.heap.size ≤ p.block) (u : Value) : Gr bs a (w.setCell p u) :=
  h.nextN (cs := [p.block]) ⟨rfl, rfl, rfl, by simp [World.setCell], fun k _ hn => Below.heap_setCell _ _ _ _ (fun e => hn (by simp [e]))⟩ (fun x hx => by simp at hx; subst hx; exact hp)
theorem Gr.drew {bs : List Nat} {a w : World} (h : Gr bs a w) : Gr bs a w.drew := ⟨h.os, h.tape, h.output, h.size, h.block⟩
theorem Gr.drewN {bs : List Nat} {a w : World} (h : Gr bs a w) (n : Nat) : Gr bs a (w.drewN n) := ⟨h.os, h.tape, h.output, h.size, h.block⟩
theorem Gr.grown {bs : List Nat} {a w w' : World} {row : Option Nat} (h : Gr bs a w) (hg : w.grownBy w' row) (hr : ∀ k, row = some k → k ∈ bs ∨ a.heap.size ≤ k) : Gr bs a w' :=
  h.nextN (cs := row.toList) ⟨hg.os, hg.tape, hg.output, hg.size, fun k hk hn => hg.block k hk (fun e => hn (by rw [← e]; simp))⟩ (fun x hx => hr x (by simpa using hx))
theorem Gr.below {bs : List Nat} {B : Nat} {w w' : World} (h : Gr bs w w') (hB : B ≤ w.heap.size) (hs : ∀ b ∈ bs, B ≤ b) : Below B w w' :=
  ⟨h.os, h.tape, h.output, h.size, fun k hk => h.block k (by omega) fun e => by have := hs k e; omega⟩
theorem Gr.below0 {w w' : World} (h : Gr [] w w') : Below w.heap.size w w' := h.below (Nat.le_refl _) fun _ e => by cases e
theorem Holds.gr {w w' : World} {b : Nat} {cs : Array Value} {t : TypeId} {bs : List Nat} (h : Holds w b cs t) (k : Gr bs w w') (hn : b ∉ bs) : Holds w' b cs t := (k.block b h.lt hn).trans h
theorem Holds.gr0 {w w' : World} {b : Nat} {cs : Array Value} {t : TypeId} (h : Holds w b cs t) (k : Gr [] w w') : Holds w' b cs t := h.gr k (by simp)
theorem own_gr {w w' : World} {base : Nat} {e : TypeId} {size n : Nat} {v : Value} {xs : List Value} {bs : List Nat} (h : w.ownsRow base e size v n xs) (k : Gr bs w w') (hn : ∀ b, v.ownBlock = some b → b ∉ bs) : w'.ownsRow base e size v n xs := by
  refine ⟨h.1, ?_⟩
  rcases h.2 with hz | ⟨g, cap, cur, rfl, hg, hh, rest⟩
  · exact .inl hz
  · exact .inr ⟨g, cap, cur, rfl, hg, (k.block g (Array.getElem?_eq_some_iff.1 hh).1 (hn g rfl)).trans hh, rest⟩
theorem own_gr0 {w w' : World} {base : Nat} {e : TypeId} {size n : Nat} {v : Value} {xs : List Value} (h : w.ownsRow base e size v n xs) (k : Gr [] w w') : w'.ownsRow base e size v n xs := own_gr h k fun _ _ => by simp

theorem Gr.cell0 {w w' : World} {b o : Nat} (h : Gr [] w w') (hb : b < w.heap.size) : w'.cell? ⟨b, o, none⟩ = w.cell? ⟨b, o, none⟩ := World.cell?_of_block (w := w) (h.block b hb (by simp))
end Go.Proofs.YtgleopahldpajaaGreat

/-
  Maps keyed by int, as functions of the key: look-up, store, delete, clear, range.
-/
namespace Go.Proofs.YtgleopahldpajaaGreat
open Go.RowKit
open Go.Maps (Keyed has)

/-- How the elements of a map are written and read. -/
structure EltLaw (P : Program) (e : TypeId) (α : Type) where
  val : α → Value
  enc : α → DataW Unit
  R : Value → Option (DataW Unit × List MemPlace)
  R_mk : ∀ a, R (val a) = some (enc a, [])
  R_inv : ∀ v y, R v = some y → ∃ a, v = val a ∧ y = (enc a, [])
  enc_inj : ∀ a b, enc a = enc b → a = b
  zero : α
  zero_run : ∀ w, (zeroValue e).run P w = .ok (val zero) w

section
variable {P : Program} {k e t : TypeId} {α : Type} {E : EltLaw P e α} {w w' : World} {b n r : Nat}

def WfZ (z : Int) : Prop := (Lit.int .i64 z).wf = true
theorem wfZ {z : Int} (h1 : -9223372036854775808 ≤ z) (h2 : z ≤ 9223372036854775807) : WfZ z := WalkArith.wf_i64 ⟨h1, h2⟩
theorem key_self (z : Int) : (Lit.int IntKind.i64 z).sameKey (.int .i64 z) = true := WideAt.sameKey_self (by simp [WideAt.IsKeyLit])
theorem key_ne {y z : Int} (h : y ≠ z) : (Lit.int IntKind.i64 y).sameKey (.int .i64 z) = false := Maps.sameKey_ne (by intro q; injection q; contradiction)
theorem key_is (y z : Int) : (Lit.int IntKind.i64 y).sameKey (.int .i64 z) = decide (y = z) := by
  by_cases h : y = z
  · subst h; simp [key_self]
  · simp [key_ne h, h]
/-- The datum D is the function f. -/
def MIs (E : EltLaw P e α) (D : DataW Unit) (f : Int → Option α) : Prop := ∀ z, WfZ z → has D (.int .i64 z) = (f z).isSome ∧ ∀ zd, D.atKey (.int .i64 z) zd = ((f z).map E.enc).getD zd
/-- Block b is a map of at most n entries, which is f. -/
def MapZ (E : EltLaw P e α) (k : TypeId) (w : World) (b n : Nat) (f : Int → Option α) : Prop := ∃ D, w.ownsMap P k E.R b n D ∧ MIs E D f
def updZ (f : Int → Option α) (z : Int) (v : Option α) : Int → Option α := fun y => if y = z then v else f y

theorem MIs.put {D : DataW Unit} {f : Int → Option α} (h : MIs E D f) (hD : Maps.IsMap D) (z : Int) (a : α) : MIs E (D.put (.int .i64 z) (E.enc a)) (updZ f z (some a)) := by
  intro y hy
  by_cases q : y = z
  · subst q
    refine ⟨?_, fun zd => ?_⟩
    · rw [Maps.has_put_same hD (by simp [WideAt.IsKeyLit])]; simp [updZ]
    · rw [Maps.atKey_put_same hD (by simp [WideAt.IsKeyLit])]; simp [updZ]
  · have hne : (Lit.int IntKind.i64 y) ≠ .int .i64 z := by intro e; injection e; contradiction
    refine ⟨?_, fun zd => ?_⟩
    · rw [Maps.has_put_other hne, (h y hy).1]; simp [updZ, q]
    · rw [Maps.atKey_put_other hne, (h y hy).2]; simp [updZ, q]
theorem MIs.empty : MIs E (.map []) (fun _ => none) := by
  intro y _
  exact ⟨rfl, fun zd => rfl⟩
theorem MapZ.lt {f : Int → Option α} (h : MapZ E k w b n f) : b < w.heap.size := by obtain ⟨D, h, _⟩ := h; exact h.lt
theorem MapZ.mono {f : Int → Option α} {m : Nat} (h : MapZ E k w b n f) (hm : n ≤ m) : MapZ E k w b m f := by obtain ⟨D, h, q⟩ := h; exact ⟨D, h.mono hm, q⟩
theorem MapZ.made (w : World) : MapZ E k (w.alloc (.map #[] 0)) w.heap.size 0 (fun _ => none) := ⟨.map [], World.ownsMap_made _ _ _ _, MIs.empty⟩
theorem MapZ.block {f : Int → Option α} (h : MapZ E k w b n f) (hb : w'.heap[b]? = w.heap[b]?) : MapZ E k w' b n f := by
  obtain ⟨D, ⟨es, clock, h1, h2, h3, h4⟩, q⟩ := h
  exact ⟨D, ⟨es, clock, hb.trans h1, h2, h3, h4⟩, q⟩
theorem MapZ.gr {f : Int → Option α} {bs : List Nat} (h : MapZ E k w b n f) (g : Gr bs w w') (hn : b ∉ bs) : MapZ E k w' b n f := h.block (g.block b h.lt hn)
theorem MapZ.gr0 {f : Int → Option α} (h : MapZ E k w b n f) (g : Gr [] w w') : MapZ E k w' b n f := h.gr g (by simp)
theorem Gr.ofGrown {row : Option Nat} (h : w.grownBy w' row) : Gr row.toList w w' := ⟨h.os, h.tape, h.output, h.size, fun i hi hn => h.block i hi (fun e => hn (by rw [← e]; simp))⟩

theorem MapZ.look {f : Int → Option α} (h : MapZ E k w b n f) (hk : P.underlying k = some (.int .i64)) (ht : P.underlying t = some (.map k e)) {z : Int} (hz : WfZ z) :
    (Instr.lookup t (.map (some b)) (.int .i64 z) false).run P w = .ok (E.val ((f z).getD E.zero)) w := by
  obtain ⟨D, h, q⟩ := h
  obtain ⟨v, ps, hrun, hv⟩ := h.lookup (Maps.int_keyed hk) ht (E.zero_run w) (E.R_mk E.zero) (Maps.keyOf_int_mk hk hz)
  obtain ⟨a, rfl, ha⟩ := E.R_inv _ _ hv
  rw [hrun]
  have h2 := (q z hz).2 (E.enc E.zero)
  injection ha with ha _
  rw [ha] at h2
  congr 2
  cases c : f z with
  | none => rw [c] at h2; exact E.enc_inj _ _ h2
  | some x => rw [c] at h2; exact E.enc_inj _ _ h2
theorem MapZ.look_ok {f : Int → Option α} (h : MapZ E k w b n f) (hk : P.underlying k = some (.int .i64)) (ht : P.underlying t = some (.map k e)) {z : Int} (hz : WfZ z) :
    (Instr.lookup t (.map (some b)) (.int .i64 z) true).run P w = .ok (.tuple #[E.val ((f z).getD E.zero), .bool (f z).isSome]) w := by
  obtain ⟨D, h, q⟩ := h
  obtain ⟨v, ps, hrun, hv⟩ := h.look_ok (Maps.int_keyed hk) ht (E.zero_run w) (E.R_mk E.zero) (Maps.keyOf_int_mk hk hz)
  obtain ⟨a, rfl, ha⟩ := E.R_inv _ _ hv
  rw [hrun, (q z hz).1]
  have h2 := (q z hz).2 (E.enc E.zero)
  injection ha with ha _
  rw [ha] at h2
  congr 4
  cases c : f z with
  | none => rw [c] at h2; exact congrArg E.val (E.enc_inj _ _ h2)
  | some x => rw [c] at h2; exact congrArg E.val (E.enc_inj _ _ h2)
end

section
variable {P : Program} {k e t : TypeId} {α : Type} {E : EltLaw P e α} {w : World} {b n r : Nat} {f : Int → Option α} {ops : Array Oper} {rest : List Oper} {o : Oper} {a : Act} {Q : Exit → Act → World → Prop}

/-- 'm[z]' -/
theorem wp_lookZ (hg : o.guard = none) (m x : Operand) (hop : o.op = Op.lookup t m x false) (hm : a.eval m = .map (some b)) (h : MapZ E k w b n f) (hk : P.underlying k = some (.int .i64)) (ht : P.underlying t = some (.map k e)) (z : Int) (hx : a.eval x = .int .i64 z) (hz : WfZ z)
    (hK : wpList P ops Q rest (a.put o.dst (E.val ((f z).getD E.zero))) w) : wpList P ops Q (o :: rest) a w := by
  refine wpList_plain hg fun K' hK' => ?_
  unfold Oper.wp
  simp [execOp, hop, hm, hx, h.look hk ht hz, Result.andThen]
  exact hK' _ _ hK
/-- 'v, ok := m[z]' -/
theorem wp_lookZ_ok (hg : o.guard = none) (m x : Operand) (hop : o.op = Op.lookup t m x true) (hm : a.eval m = .map (some b)) (h : MapZ E k w b n f) (hk : P.underlying k = some (.int .i64)) (ht : P.underlying t = some (.map k e)) (z : Int) (hx : a.eval x = .int .i64 z) (hz : WfZ z)
    (hK : wpList P ops Q rest (a.put o.dst (.tuple #[E.val ((f z).getD E.zero), .bool (f z).isSome])) w) : wpList P ops Q (o :: rest) a w := by
  refine wpList_plain hg fun K' hK' => ?_
  unfold Oper.wp
  simp [execOp, hop, hm, hx, h.look_ok hk ht hz, Result.andThen]
  exact hK' _ _ hK
/-- The same, what comes back written out. -/
theorem wp_lookZ_oks (hg : o.guard = none) (m x : Operand) (hop : o.op = Op.lookup t m x true) (hm : a.eval m = .map (some b)) (h : MapZ E k w b n f) (hk : P.underlying k = some (.int .i64)) (ht : P.underlying t = some (.map k e)) (z : Int) (hx : a.eval x = .int .i64 z) (hz : WfZ z)
    (V : Value) (hV : Value.tuple #[E.val ((f z).getD E.zero), .bool (f z).isSome] = V) (hK : wpList P ops Q rest (a.put o.dst V) w) : wpList P ops Q (o :: rest) a w :=
  wp_lookZ_ok hg m x hop hm h hk ht z hx hz (by rw [hV]; exact hK)
theorem wp_lookZs (hg : o.guard = none) (m x : Operand) (hop : o.op = Op.lookup t m x false) (hm : a.eval m = .map (some b)) (h : MapZ E k w b n f) (hk : P.underlying k = some (.int .i64)) (ht : P.underlying t = some (.map k e)) (z : Int) (hx : a.eval x = .int .i64 z) (hz : WfZ z)
    (V : Value) (hV : E.val ((f z).getD E.zero) = V) (hK : wpList P ops Q rest (a.put o.dst V) w) : wpList P ops Q (o :: rest) a w :=
  wp_lookZ hg m x hop hm h hk ht z hx hz (by rw [hV]; exact hK)
/-- 'm[z] = v' -/
theorem wp_putZ (hg : o.guard = none) (m x v : Operand) (hop : o.op = Op.mapUpdate t m x v) (hm : a.eval m = .map (some b)) (h : MapZ E k w b n f) (hn : n < maxLen) (hk : P.underlying k = some (.int .i64)) (ht : P.underlying t = some (.map k e)) (z : Int) (hx : a.eval x = .int .i64 z) (hz : WfZ z)
    (c : α) (hv : a.eval v = E.val c) (hK : ∀ w', MapZ E k w' b (n + 1) (updZ f z (some c)) → Gr [b] w w' → w'.heap.size = w.heap.size → wpList P ops Q rest (a.put o.dst undef) w') : wpList P ops Q (o :: rest) a w := by
  obtain ⟨D, h, q⟩ := h
  refine wpList_plain hg fun K' hK' => ?_
  obtain ⟨w', hrun, r1, r2⟩ := h.store (Maps.int_keyed hk) ht hn (Maps.keyOf_int_mk hk hz) (E.R_mk c)
  unfold Oper.wp
  simp [execOp, hop, hm, hx, hv, hrun, Result.andThen]
  have hs : w'.heap.size = w.heap.size := by
    obtain ⟨es, cl, es', cl', _, rfl⟩ := r2
    simp [ChangeMaps.setBlock]
  exact hK' _ _ (hK w' ⟨_, r1, q.put h.isMap z c⟩ (Gr.ofGrown r2.grown) hs)
theorem own_tight {D : DataW Unit} {R : Value → Option (DataW Unit × List MemPlace)} {W : World} {m : Nat} (h : W.ownsMap P k R b m D) : W.ownsMap P k R b (Maps.size D) D := by
  obtain ⟨es, clock, h1, h2, h3, h4⟩ := h
  refine ⟨es, clock, h1, h2, ?_, h4⟩
  rw [h4]
  simp [Maps.size, length_sorted]
/-! ### range -/
def RanZ (E : EltLaw P e α) (k : TypeId) (w : World) (b r n : Nat) (f : Int → Option α) (left : Int → Bool) (cnt : Nat) : Prop :=
  ∃ D L, w.ranges P k E.R b r n D L cnt ∧ MIs E D f ∧ ∀ z, WfZ z → L (.int .i64 z) = left z
theorem RanZ.lt {left : Int → Bool} {cnt : Nat} (h : RanZ E k w b r n f left cnt) : r < w.heap.size := by obtain ⟨D, L, h, _⟩ := h; exact h.lt
end

end Go.Proofs.YtgleopahldpajaaGreat

/-
  Maps keyed by string, as functions of the key: look-up, store, delete, length, range. Their size is told.
-/
namespace Go.Proofs.YtgleopahldpajaaGreat
open Go.RowKit
open Go.Maps (Keyed has)

/-- The key that a text is. -/
def tL (s : ByteArray) : Lit := .string s.data.toList
def WfT (s : ByteArray) : Prop := s.size ≤ maxLen
theorem tL_inj {a b : ByteArray} (h : tL a = tL b) : a = b := by
  unfold tL at h
  injection h with h
  exact ByteArray.ext (Array.ext' h)
theorem tL_is (y z : ByteArray) : (tL y).sameKey (tL z) = decide (y = z) := by
  by_cases h : y = z
  · subst h; simp [WideAt.sameKey_self (show WideAt.IsKeyLit (tL y) by simp [WideAt.IsKeyLit, tL])]
  · rw [Maps.sameKey_ne fun e => h (tL_inj e)]; simp [h]
theorem tkey {P : Program} {k : TypeId} (hk : P.underlying k = some .string) {z : ByteArray} (hz : WfT z) : keyOf P k (.string z) = some (tL z) := WideMaps.keyOf_string_mk hk hz
theorem tkey_inv {P : Program} {k : TypeId} (hk : P.underlying k = some .string) {v : Value} {l : Lit} (h : keyOf P k v = some l) : ∃ s : ByteArray, v = .string s ∧ l = tL s ∧ WfT s := WideMaps.string_of_keyOf hk h
section
variable {P : Program} {k e t : TypeId} {α : Type} {E : EltLaw P e α} {w w' : World} {b n r : Nat}
/-- The datum D is the function f. -/
def MIsT (E : EltLaw P e α) (D : DataW Unit) (f : ByteArray → Option α) : Prop := ∀ z, WfT z → has D (tL z) = (f z).isSome ∧ ∀ zd, D.atKey (tL z) zd = ((f z).map E.enc).getD zd
/-- Block b is a map of at most n entries, which is f. -/
def MapT (E : EltLaw P e α) (k : TypeId) (w : World) (b n : Nat) (f : ByteArray → Option α) : Prop := ∃ D, w.ownsMap P k E.R b n D ∧ MIsT E D f ∧ Maps.size D = n
def updT (f : ByteArray → Option α) (z : ByteArray) (v : Option α) : ByteArray → Option α := fun y => if y = z then v else f y

theorem MIsT.put {D : DataW Unit} {f : ByteArray → Option α} (h : MIsT E D f) (hD : Maps.IsMap D) (z : ByteArray) (a : α) : MIsT E (D.put (tL z) (E.enc a)) (updT f z (some a)) := by
  intro y hy
  by_cases q : y = z
  · subst q
    refine ⟨?_, fun zd => ?_⟩
    · rw [Maps.has_put_same hD (by simp [WideAt.IsKeyLit, tL])]; simp [updT]
    · rw [Maps.atKey_put_same hD (by simp [WideAt.IsKeyLit, tL])]; simp [updT]
  · have hne : tL y ≠ tL z := fun e => q (tL_inj e)
    refine ⟨?_, fun zd => ?_⟩
    · rw [Maps.has_put_other hne, (h y hy).1]; simp [updT, q]
    · rw [Maps.atKey_put_other hne, (h y hy).2]; simp [updT, q]
theorem MIsT.empty : MIsT E (.map []) (fun _ => none) := by
  intro y _
  exact ⟨rfl, fun zd => rfl⟩
theorem MIsT.some {D : DataW Unit} {f : ByteArray → Option α} (h : MIsT E D f) {z : ByteArray} (hz : WfT z) {a : α} (ha : ∀ zd, D.atKey (tL z) zd = E.enc a) (hn : has D (tL z) = true) : f z = .some a := by
  obtain ⟨h1, h2⟩ := h z hz
  rw [hn] at h1
  cases q : f z with
  | none => rw [q] at h1; cases h1
  | some c =>
    have := h2 (E.enc a)
    rw [ha, q] at this
    rw [E.enc_inj _ _ this]

theorem MapT.lt {f : ByteArray → Option α} (h : MapT E k w b n f) : b < w.heap.size := by obtain ⟨D, h, _⟩ := h; exact h.lt
theorem MapT.made (w : World) : MapT E k (w.alloc (.map #[] 0)) w.heap.size 0 (fun _ => none) := ⟨.map [], World.ownsMap_made _ _ _ _, MIsT.empty, rfl⟩
theorem MapT.block {f : ByteArray → Option α} (h : MapT E k w b n f) (hb : w'.heap[b]? = w.heap[b]?) : MapT E k w' b n f := by
  obtain ⟨D, ⟨es, clock, h1, h2, h3, h4⟩, q⟩ := h
  exact ⟨D, ⟨es, clock, hb.trans h1, h2, h3, h4⟩, q⟩
theorem MapT.gr {f : ByteArray → Option α} {bs : List Nat} (h : MapT E k w b n f) (g : Gr bs w w') (hn : b ∉ bs) : MapT E k w' b n f := h.block (g.block b h.lt hn)
theorem MapT.gr0 {f : ByteArray → Option α} (h : MapT E k w b n f) (g : Gr [] w w') : MapT E k w' b n f := h.gr g (by simp)
theorem MapT.look_ok {f : ByteArray → Option α} (h : MapT E k w b n f) (hk : P.underlying k = some .string) (ht : P.underlying t = some (.map k e)) {z : ByteArray} (hz : WfT z) :
    (Instr.lookup t (.map (some b)) (.string z) true).run P w = .ok (.tuple #[E.val ((f z).getD E.zero), .bool (f z).isSome]) w := by
  obtain ⟨D, h, q⟩ := h
  obtain ⟨v, ps, hrun, hv⟩ := h.look_ok (Maps.string_keyed hk) ht (E.zero_run w) (E.R_mk E.zero) (tkey hk hz)
  obtain ⟨a, rfl, ha⟩ := E.R_inv _ _ hv
  rw [hrun, (q.1 z hz).1]
  have h2 := (q.1 z hz).2 (E.enc E.zero)
  injection ha with ha _
  rw [ha] at h2
  congr 4
  cases c : f z with
  | none => rw [c] at h2; exact congrArg E.val (E.enc_inj _ _ h2)
  | some x => rw [c] at h2; exact congrArg E.val (E.enc_inj _ _ h2)
end

section
variable {P : Program} {k e t : TypeId} {α : Type} {E : EltLaw P e α} {w : World} {b n r : Nat} {f : ByteArray → Option α} {ops : Array Oper} {rest : List Oper} {o : Oper} {a : Act} {Q : Exit → Act → World → Prop}

/-- 'v, ok := m[z]' -/
theorem wp_lookT_ok (hg : o.guard = none) (m x : Operand) (hop : o.op = Op.lookup t m x true) (hm : a.eval m = .map (some b)) (h : MapT E k w b n f) (hk : P.underlying k = some .string) (ht : P.underlying t = some (.map k e)) (z : ByteArray) (hx : a.eval x = .string z) (hz : WfT z)
    (hK : wpList P ops Q rest (a.put o.dst (.tuple #[E.val ((f z).getD E.zero), .bool (f z).isSome])) w) : wpList P ops Q (o :: rest) a w := by
  refine wpList_plain hg fun K' hK' => ?_
  unfold Oper.wp
  simp [execOp, hop, hm, hx, h.look_ok hk ht hz, Result.andThen]
  exact hK' _ _ hK
/-- The same, what comes back written out. -/
theorem wp_lookT_oks (hg : o.guard = none) (m x : Operand) (hop : o.op = Op.lookup t m x true) (hm : a.eval m = .map (some b)) (h : MapT E k w b n f) (hk : P.underlying k = some .string) (ht : P.underlying t = some (.map k e)) (z : ByteArray) (hx : a.eval x = .string z) (hz : WfT z)
    (V : Value) (hV : Value.tuple #[E.val ((f z).getD E.zero), .bool (f z).isSome] = V) (hK : wpList P ops Q rest (a.put o.dst V) w) : wpList P ops Q (o :: rest) a w :=
  wp_lookT_ok hg m x hop hm h hk ht z hx hz (by rw [hV]; exact hK)
/-- 'm[z] = v' -/
theorem wp_putT (hg : o.guard = none) (m x v : Operand) (hop : o.op = Op.mapUpdate t m x v) (hm : a.eval m = .map (some b)) (h : MapT E k w b n f) (hn : n < maxLen) (hk : P.underlying k = some .string) (ht : P.underlying t = some (.map k e)) (z : ByteArray) (hx : a.eval x = .string z) (hz : WfT z)
    (c : α) (hv : a.eval v = E.val c) (hK : ∀ w', MapT E k w' b (if (f z).isSome then n else n + 1) (updT f z (some c)) → Gr [b] w w' → w'.heap.size = w.heap.size → wpList P ops Q rest (a.put o.dst undef) w') : wpList P ops Q (o :: rest) a w := by
  obtain ⟨D, h, q⟩ := h
  refine wpList_plain hg fun K' hK' => ?_
  obtain ⟨w', hrun, r1, r2⟩ := h.store (Maps.string_keyed hk) ht hn (tkey hk hz) (E.R_mk c)
  unfold Oper.wp
  simp [execOp, hop, hm, hx, hv, hrun, Result.andThen]
  have hs : w'.heap.size = w.heap.size := by
    obtain ⟨es, cl, es', cl', _, rfl⟩ := r2
    simp [ChangeMaps.setBlock]
  have r3 := own_tight r1
  have r4 := Maps.size_put (k := tL z) (h.tidy (Maps.string_keyed hk)) (E.enc c)
  rw [(q.1 z hz).1, q.2] at r4
  rw [r4] at r3
  exact hK' _ _ (hK w' ⟨_, r3, q.1.put h.isMap z c, r4⟩ (Gr.ofGrown r2.grown) hs)
/-! ### range -/
def RanT (E : EltLaw P e α) (k : TypeId) (w : World) (b r n : Nat) (f : ByteArray → Option α) (left : ByteArray → Bool) (cnt : Nat) : Prop :=
  ∃ D L, w.ranges P k E.R b r n D L cnt ∧ (MIsT E D f ∧ Maps.size D = n) ∧ ∀ z, WfT z → L (tL z) = left z
theorem RanT.map {left : ByteArray → Bool} {cnt : Nat} (h : RanT E k w b r n f left cnt) : MapT E k w b n f := by obtain ⟨D, L, h, q, _⟩ := h; exact ⟨D, h.owns, q⟩
theorem RanT.lt {left : ByteArray → Bool} {cnt : Nat} (h : RanT E k w b r n f left cnt) : r < w.heap.size := by obtain ⟨D, L, h, _⟩ := h; exact h.lt
theorem RanT.gr {w' : World} {left : ByteArray → Bool} {cnt : Nat} {bs : List Nat} (h : RanT E k w b r n f left cnt) (g : Gr bs w w') (h1 : b ∉ bs) (h2 : r ∉ bs) : RanT E k w' b r n f left cnt := by
  have hb := g.block b h.map.lt h1
  have hr := g.block r h.lt h2
  obtain ⟨D, L, ⟨es, clock, since, seen, c0, q1, q2, q3, q4, q5, q6, q7, q8, q9⟩, rest⟩ := h
  exact ⟨D, L, ⟨es, clock, since, seen, c0, hb.trans q1, q2, q3, q4, hr.trans q5, q6, q7, q8, q9⟩, rest⟩
theorem RanT.gr0 {w' : World} {left : ByteArray → Bool} {cnt : Nat} (h : RanT E k w b r n f left cnt) (g : Gr [] w w') : RanT E k w' b r n f left cnt := h.gr g (by simp) (by simp)
/-- 'range m' -/
theorem wp_rangeT (hg : o.guard = none) (m : Operand) (hop : o.op = Op.range t m) (hm : a.eval m = .map (some b)) (h : MapT E k w b n f) (hk : P.underlying k = some .string) (ht : P.underlying t = some (.map k e))
    (hK : ∀ w' cnt, RanT E k w' b w.heap.size n f (fun z => (f z).isSome) cnt → Gr [] w w' → w'.heap.size = w.heap.size + 1 → wpList P ops Q rest (a.put o.dst (.pointer (some ⟨w.heap.size, 0, none⟩))) w') : wpList P ops Q (o :: rest) a w := by
  obtain ⟨D, h, q⟩ := h
  refine wpList_plain hg fun K' hK' => ?_
  obtain ⟨w', hrun, r1, r2, r3⟩ := h.range (Maps.string_keyed hk) ht
  unfold Oper.wp
  simp [execOp, hop, hm, hrun, Result.andThen]
  exact hK' _ _ (hK w' _ ⟨D, _, r1, q, fun z hz => (q.1 z hz).1⟩ (Gr.ofGrown r2) r3)
/-- the next entry -/
theorem wp_nextT (hg : o.guard = none) (it : Operand) (hop : o.op = Op.next it false) (hit : a.eval it = .pointer (some ⟨r, 0, none⟩)) {left : ByteArray → Bool} {cnt : Nat} (h : RanT E k w b r n f left cnt) (hk : P.underlying k = some .string)
    (hDone : (∀ z, WfT z → left z = false) → wpList P ops Q rest (a.put o.dst (.tuple #[.bool false])) w)
    (hMore : ∀ (z : ByteArray) (c : α) (w' : World) (cnt' : Nat), WfT z → left z = true → f z = some c → RanT E k w' b r n f (fun y => left y && decide (y ≠ z)) cnt' → cnt' < cnt → Gr [r] w w' → w'.heap.size = w.heap.size →
      (Instr.entry (.pointer (some ⟨r, 0, none⟩))).run P w' = .ok (.tuple #[.string z, E.val c]) w' → wpList P ops Q rest (a.put o.dst (.tuple #[.bool true, .string z, E.val c])) w') :
    wpList P ops Q (o :: rest) a w := by
  obtain ⟨D, L, h, q, hL⟩ := h
  refine wpList_plain hg fun K' hK' => ?_
  unfold Oper.wp
  rcases h.next (Maps.string_keyed hk) o.type with ⟨h0, hl, hrun⟩ | ⟨key, v, kl, y, w', cnt', hkey, hlk, hv, hat, hrun, hrg, hlt, hgr, hsz, hen⟩
  · simp [execOp, hop, hit, hrun, Result.andThen]
    exact hK' _ _ (hDone fun z hz => by rw [← hL z hz]; exact hl _)
  · obtain ⟨z, rfl, rfl, hz⟩ := tkey_inv hk hkey
    obtain ⟨c, rfl, rfl⟩ := E.R_inv _ _ hv
    have hh : has D (tL z) = true := Maps.has_true_of_atKey (y := E.enc c) hat
    simp [execOp, hop, hit, hrun, Result.andThen]
    refine hK' _ _ (hMore z c w' cnt' hz (by rw [← hL z hz]; exact hlk) (q.1.some hz hat hh) ⟨D, _, hrg, q, fun y hy => ?_⟩ hlt (Gr.ofGrown hgr) hsz hen)
    show (L (tL y) && !(tL y).sameKey (tL z)) = _
    rw [hL y hy, tL_is]
    simp
end

end Go.Proofs.YtgleopahldpajaaGreat
