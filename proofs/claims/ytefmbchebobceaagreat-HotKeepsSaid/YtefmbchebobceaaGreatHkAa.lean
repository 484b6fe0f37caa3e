/-
  HkAa: Reg, RegT, Base, Gr, SpA, SpB.
-/
import Derived.WalkKit
import Derived.Handy
import Derived.Lib.Hide
import Derived.Deep.QuietTactic
import Derived.BigQuiet
import Derived.KernelRfl
import Derived.StillTailTactics
import Derived.Test.YtefmbchebobceaaGreatRows
import Derived.IntWalk

set_option linter.unusedVariables false

/-
  A region that draws its order, over a class of worlds that an invariant names: a call may make memory if it keeps the invariant.
-/
namespace Go.Proofs.YtefmbchebobceaaGreat
open Go.RowKit

structure Cls (I : World → Prop) where
  w : World
  h : I w
theorem wp_region_cls {P : Program} {id : Nat} {Q : Exit → Act → World → Prop} {a : Act} {w : World} {l : List Oper} (I : World → Prop) (hm : P.follows .mixedOrders = true) (hB : Region.lexB .any l.toArray = true) (hI : I w.drew)
    (h : wpQuiet P l.toArray (fun w' => ∃ x : Cls I, w' = x.w) (fun a' => ∀ w', (∃ x : Cls I, w' = x.w) → Q .normal a' w') l a) : (Code.region id l.toArray true).wp P Q a w :=
  wp_region_quiet (C := fun w' => ∃ x : Cls I, w' = x.w) hm hB ⟨⟨w.drew, hI⟩, rfl⟩ (by simpa using h)
theorem cls_call {P : Program} {f : FuncId} {args : Array Value} {I : World → Prop} {v : Value} (x : Cls I) (h : Calls P f args x.w fun e w' => e = .returned v ∧ Below x.w.heap.size x.w w') (k : ∀ w', Below x.w.heap.size x.w w' → I w') :
    Calls P f args x.w fun e w' => e = .returned v ∧ ∃ y : Cls I, w' = y.w :=
  h.mono fun _ w' ⟨he, hb⟩ => ⟨he, ⟨w', k w' hb⟩, rfl⟩

/-! ### A block that is known whole -/
def Holds (w : World) (b : Nat) (cs : Array Value) (t : TypeId) : Prop := w.heap[b]? = some (.cells cs t (0, 0))
section
variable {w w' : World} {b : Nat} {cs : Array Value} {t : TypeId}
theorem Holds.lt (h : Holds w b cs t) : b < w.heap.size := (Array.getElem?_eq_some_iff.1 h).1
theorem Holds.cell (h : Holds w b cs t) (i : Nat) : w.cell? ⟨b, i, none⟩ = cs[i]? := cell_of_row w b i cs t (0, 0) h
theorem Holds.frozen (h : Holds w b cs t) (i : Nat) : w.frozen? ⟨b, i, none⟩ = false := frozen_of_row w b i cs t h
theorem Holds.below (h : Holds w b cs t) (hb : Below w.heap.size w w') : Holds w' b cs t := (hb.block b h.lt).trans h
theorem Holds.new (w : World) (cs : Array Value) (t : TypeId) : Holds (w.alloc (.cells cs t)) w.heap.size cs t := heap_alloc_new w _
theorem Holds.alloc (h : Holds w b cs t) (o : Obj) : Holds (w.alloc o) b cs t := (Below.heap_alloc w o b h.lt).trans h
theorem Holds.far (h : Holds w b cs t) {a : Addr} (ha : b ≠ a.block) (u : Value) : Holds (w.setCell a u) b cs t := (Below.heap_setCell w a u b ha).trans h
theorem Holds.drew (h : Holds w b cs t) : Holds w.drew b cs t := h
theorem Holds.set (h : Holds w b cs t) (i : Nat) (u : Value) : Holds (w.setCell ⟨b, i, none⟩ u) b (cs.setIfInBounds i u) t := heap_setCell_same w b i cs t u h
theorem Holds.three {x y z : Value} (h : Holds w b #[x, y, z] t) : w.cell? ⟨b, 0, none⟩ = some x ∧ w.cell? ⟨b, 1, none⟩ = some y ∧ w.cell? ⟨b, 2, none⟩ = some z := ⟨h.cell 0, h.cell 1, h.cell 2⟩
end
theorem below_next {w w1 w2 : World} (h : Below w.heap.size w w1) (k : Below w1.heap.size w1 w2) : Below w.heap.size w w2 := h.trans (k.mono h.size)
theorem below_new {w w1 : World} (h : Below w.heap.size w w1) (o : Obj) : Below w.heap.size w (w1.alloc o) := h.alloc h.size o

end Go.Proofs.YtefmbchebobceaaGreat

/-
  A region that draws its order: operations that read, and calls that may make memory within a class of worlds, in whatever order; behind them a tail in forced order.
-/
namespace Go.Proofs.YtefmbchebobceaaGreat
open Go.RowKit

section
variable {P : Program} {ops : Array Oper} {md : Region.Mode} {C : World → Prop}
def wpHeadQ (P : Program) (md : Region.Mode) (ops : Array Oper) (C : World → Prop) (n : Nat) (L : Array Bool → Act → Prop) : Nat → Array Bool → Act → Prop
  | 0, listed, a => L listed a
  | f + 1, listed, a =>
    Region.ready md ops listed ≠ [] ∧ ∀ i ∈ Region.ready md ops listed, i < n ∧ qOp P ops C i (wpHeadQ P md ops C n L f (listed.setIfInBounds i true)) a
theorem wpAny_of_headQ {n g : Nat} {L : Array Bool → Act → Prop} {Q' : Exit → Act → World → Prop} (hL : ∀ listed a w, C w → L listed a → wpAny P md ops Q' g listed a w) :
    ∀ (f : Nat) (listed : Array Bool) (a : Act) (w : World), C w → wpHeadQ P md ops C n L f listed a → wpAny P md ops Q' (f + g) listed a w
  | 0, listed, a, w, hw, h => by rw [Nat.zero_add]; exact hL _ _ _ hw h
  | f + 1, listed, a, w, hw, h => by
    rw [show f + 1 + g = (f + g) + 1 by omega]
    exact ⟨fun h0 => absurd h0 h.1, fun i hi => wpOp_of_qOp hw (fun a' w' hw' h' => wpAny_of_headQ hL f _ a' w' hw' h') (h.2 i hi).2⟩
theorem wpHeadQ_first {n i : Nat} {oi : Oper} {v : Value} {L : Array Bool → Act → Prop} (hi : ops[i]? = some oi) (hsel : ∀ (j : Nat) (o : Oper) cs b, ops[j]? = some o → o.op ≠ .select cs b)
    (hs : Region.sinkB md ops n = true) (hc : Region.chainB md ops n = true) (hn : n < ops.size) (hin : i < n)
    (hdone : ∀ listed a, L listed a → ∀ j ∈ Region.ready md ops listed, n ≤ j) :
    ∀ (f : Nat) (listed : Array Bool) (a : Act), HeadInv md ops n listed →
      (∀ j oj, ops[j]? = some oj → j ≠ i → listed.getD j true = false → (∀ e ∈ oj.after, Region.binds md e = true → e.on ≠ i) → oi.apart ops oj = true) →
      i ∈ Region.ready md ops listed → YieldsIn P ops C oi v a →
      wpHeadQ P md ops C n L f (listed.setIfInBounds i true) (a.put oi.dst v) → wpHeadQ P md ops C n L (f + 1) listed a := by
  intro f
  induction f with
  | zero =>
    intro listed a inv _ hr hy H
    have hun := (mem_ready.1 hr).1
    refine ⟨fun h => (by rw [h] at hr; cases hr), fun j hj => ?_⟩
    have hjn : j < n := by
      rcases Nat.lt_or_ge j n with h | h
      · exact h
      · exact absurd hj (tail_waits hs hc hn inv _ i rfl hin hun j h)
    refine ⟨hjn, ?_⟩
    by_cases hji : j = i
    · subst hji; exact hy.qOp hi H
    · have := hdone _ _ H j (ready_mono hj hji)
      omega
  | succ f ih =>
    intro listed a inv hfree hr hy H
    have hun := (mem_ready.1 hr).1
    refine ⟨fun h => (by rw [h] at hr; cases hr), fun j hj => ?_⟩
    have hjn : j < n := by
      rcases Nat.lt_or_ge j n with h | h
      · exact h
      · exact absurd hj (tail_waits hs hc hn inv _ i rfl hin hun j h)
    refine ⟨hjn, ?_⟩
    by_cases hji : j = i
    · subst hji; exact hy.qOp hi H
    · have h1 := (H.2 j (ready_mono hj hji)).2
      obtain ⟨hjun, oj, hoj, hall⟩ := mem_ready.1 hj
      have hnot : ∀ e ∈ oj.after, Region.binds md e = true → e.on ≠ i := fun e he hb heq => by
        have h1 := hall e he hb
        rw [heq, getD_both hun] at h1
        cases h1
      have h2 := qOp_put hoj (hfree j oj hoj hji hjun hnot) (fun cs b => hsel i oi cs b hi) (fun cs b => hsel j oj cs b hoj) hy h1
      have hfree' : ∀ k ok, ops[k]? = some ok → k ≠ i → (listed.setIfInBounds j true).getD k true = false →
          (∀ e ∈ ok.after, Region.binds md e = true → e.on ≠ i) → oi.apart ops ok = true := fun k ok hk hki hun hno => by
        refine hfree k ok hk hki ?_ hno
        by_cases hjk : j = k
        · subst hjk; exact hjun
        · rw [getD_set_ne true hjk] at hun; exact hun
      refine qOp_mono (fun a' h3 => ih (listed.setIfInBounds j true) a' (inv.set hj hjn) hfree' (ready_mono hr (Ne.symm hji)) h3.1 ?_) h2
      rw [Array.setIfInBounds_comm _ _ hji]
      exact h3.2
theorem wpHeadQ_lex {n g : Nat} {Lq : Act → Prop} (hsel : Region.noSelect ops = true) (hs : Region.sinkB md ops n = true) (hc : Region.chainB md ops n = true) (hn : n < ops.size) :
    ∀ (l : List Oper) (k : Nat) (listed : Array Bool) (a : Act), (∀ j, j < l.length → l[j]? = ops[k + j]?) → k + l.length = n → HeadInv md ops n listed →
    Region.lexHead md ops g l.length k listed = true → wpQuiet P ops C Lq l a →
    wpHeadQ P md ops C n (fun listed' a' => Region.seqB md ops g n listed' = true ∧ Lq a') l.length listed a
  | [], k, listed, a, _, hk, _, hB, h => by
    have : k = n := by simpa using hk
    subst this
    exact ⟨by simpa [Region.lexHead] using hB, h⟩
  | o :: l, k, listed, a, hl, hk, inv, hB, h => by
    have h0 : ops[k]? = some o := by simpa using (hl 0 (by simp)).symm
    simp only [List.length_cons, Region.lexHead, Bool.and_eq_true] at hB
    obtain ⟨⟨hr, hf⟩, hB'⟩ := hB
    have hkn : k < n := by simp only [List.length_cons] at hk; omega
    have hr' : k ∈ Region.ready md ops listed := by simpa using hr
    have hst : qOp P ops C k (wpQuiet P ops C Lq l) a := by unfold qOp; simp only [h0]; exact h
    obtain ⟨v, hy, hK⟩ := yieldsIn_of_qOp h0 hst
    exact wpHeadQ_first h0 (Region.noSelect_spec hsel) hs hc hn hkn (fun listed' a' hL => seqB_ready hL.1) l.length listed a inv (Region.free_spec h0 hf) hr' hy
      (wpHeadQ_lex hsel hs hc hn l (k + 1) _ _ (fun j hj => by have := hl (j + 1) (by simp; omega); simpa [Nat.add_assoc, Nat.add_comm 1 j] using this) (by simp only [List.length_cons] at hk; omega) (inv.set hr' hkn) hB' hK)
theorem wp_region_quiet_tail {id : Nat} {Q : Exit → Act → World → Prop} {a : Act} {w : World} {l : List Oper} (n : Nat) (hm : P.follows .mixedOrders = true) (hB : Region.lexTailB .any l.toArray n = true) (hC : C w.drew)
    (h : wpQuiet P l.toArray C (fun a' => ∀ w', C w' → wpList P l.toArray Q (l.drop n) a' w') (l.take n) a) : (Code.region id l.toArray true).wp P Q a w := by
  simp only [Region.lexTailB, Bool.and_eq_true, decide_eq_true_eq] at hB
  obtain ⟨⟨⟨⟨hsel, hn⟩, hs⟩, hc⟩, hlex⟩ := hB
  have hn' : n < l.length := by simpa using hn
  have htl : (l.take n).length = n := by simp; omega
  have hdl : (l.drop n).length = l.toArray.size - n := by simp
  have inv0 : HeadInv .any l.toArray n (Array.replicate l.toArray.size false) :=
    ⟨by simp, fun j oj _ hl => (by rw [getD_replicate_false] at hl; cases hl), fun t _ ht => getD_in (by simpa using ht) (getD_replicate_false _ _)⟩
  have H := wpHeadQ_lex (md := .any) (g := l.toArray.size - n) hsel hs hc hn (l.take n) 0 _ a (fun j hj => by
    have hj' : j < n := by rw [htl] at hj; exact hj
    simp [hj']) (by simpa using htl) inv0 (by rw [htl]; exact hlex) h
  refine wp_region_any hm ?_
  have := wpAny_of_headQ (Q' := Q) (g := l.toArray.size - n) (fun listed a' w' hw' hL => by
    have := wpAny_of_seq (md := .any) (Q' := Q) (l.drop n) n listed a' w' (fun j => by simp [List.getElem?_drop]) (by rw [hdl]; exact hL.1) (hL.2 w' hw')
    rwa [hdl] at this) _ _ _ _ (show C { w with drawn := w.drawn + 1 } from hC) H
  rw [htl, show n + (l.toArray.size - n) = l.toArray.size by omega] at this
  exact this
end

def Kp (w0 : World) (W : World) : Prop := Below w0.heap.size w0 W
theorem Kp.refl (w : World) : Kp w w := Below.refl _ w
theorem Kp.next {w0 w w' : World} (h : Kp w0 w) (hb : Below w.heap.size w w') : Kp w0 w' := below_next h hb
theorem Kp.drew (w : World) : Kp w w.drew := (Below.refl _ w).drew
theorem kp_ne (w0 : World) : Nonempty (Cls (Kp w0)) := ⟨⟨w0, Kp.refl w0⟩⟩
theorem kp_cell {w0 : World} {a : Addr} {v : Value} (h : w0.cell? a = some v) (x : Cls (Kp w0)) : x.w.cell? a = some v := (Below.cell x.h (World.block_lt_of_cell? w0 a h)).trans h
theorem kp_call {P : Program} {f : FuncId} {args : Array Value} {w0 : World} {v : Value} (x : Cls (Kp w0)) (h : Calls P f args x.w fun e w' => e = .returned v ∧ Below x.w.heap.size x.w w') :
    Calls P f args x.w fun e w' => e = .returned v ∧ ∃ y : Cls (Kp w0), w' = y.w := cls_call x h fun _ hb => x.h.next hb
theorem wp_region_kp {P : Program} {id : Nat} {Q : Exit → Act → World → Prop} {a : Act} {w : World} {l : List Oper} (hm : P.follows .mixedOrders = true) (hB : Region.lexB .any l.toArray = true)
    (h : wpQuiet P l.toArray (fun w' => ∃ x : Cls (Kp w), w' = x.w) (fun a' => ∀ w', (∃ x : Cls (Kp w), w' = x.w) → Q .normal a' w') l a) : (Code.region id l.toArray true).wp P Q a w :=
  wp_region_cls (Kp w) hm hB (Kp.drew w) h
theorem wp_region_kp_tail {P : Program} {id : Nat} {Q : Exit → Act → World → Prop} {a : Act} {w : World} {l : List Oper} (n : Nat) (hm : P.follows .mixedOrders = true) (hB : Region.lexTailB .any l.toArray n = true)
    (h : wpQuiet P l.toArray (fun w' => ∃ x : Cls (Kp w), w' = x.w) (fun a' => ∀ w', (∃ x : Cls (Kp w), w' = x.w) → wpList P l.toArray Q (l.drop n) a' w') (l.take n) a) : (Code.region id l.toArray true).wp P Q a w :=
  wp_region_quiet_tail (C := fun w' => ∃ x : Cls (Kp w), w' = x.w) n hm hB ⟨⟨w.drew, Kp.drew w⟩, rfl⟩ h

end Go.Proofs.YtefmbchebobceaaGreat

/-
  What many texts share: worlds below a bound; max with 0; small arithmetic.
-/
namespace Go.Proofs.YtefmbchebobceaaGreat
open Go.RowKit

theorem Below_nx {w w1 w2 : World} (h : Below w.heap.size w w1) (k : Below w1.heap.size w1 w2) : Below w.heap.size w w2 := h.trans (k.mono h.size)
theorem made_one (v : Value) (hv : Value.cells v = #[v]) (n : Nat) : (madeCells (Value.cells v) (n * 1)).toList = List.replicate n v := by
  rw [hv]
  apply List.ext_getElem
  · simp [madeCells]
  · intro i h1 h2
    simp [madeCells, Nat.mod_one]

end Go.Proofs.YtefmbchebobceaaGreat

/-
  What a step leaves as it was: all but the blocks of a list.
-/
namespace Go.Proofs.YtefmbchebobceaaGreat
open Go.RowKit

structure Gr (bs : List Nat) (w w' : World) : Prop where
  os : w'.os = w.os
  tape : w'.tape = w.tape
  output : w'.output = w.output
  size : w.heap.size ≤ w'.heap.size
  block : ∀ k, k < w.heap.size → k ∉ bs → w'.heap[k]? = w.heap[k]?

theorem Gr.refl (bs : List Nat) (w : World) : Gr bs w w := ⟨rfl, rfl, rfl, Nat.le_refl _, fun _ _ _ => rfl⟩
theorem Gr.trans {bs : List Nat} {a b c : World} (h : Gr bs a b) (k : Gr bs b c) : Gr bs a c :=
  ⟨k.os.trans h.os, k.tape.trans h.tape, k.output.trans h.output, Nat.le_trans h.size k.size, fun i hi hn => (k.block i (Nat.lt_of_lt_of_le hi h.size) hn).trans (h.block i hi hn)⟩
theorem Gr.mono {bs cs : List Nat} {w w' : World} (h : Gr bs w w') (hs : ∀ b ∈ bs, b ∈ cs) : Gr cs w w' :=
  ⟨h.os, h.tape, h.output, h.size, fun k hk hn => h.block k hk fun e => hn (hs k e)⟩
theorem Gr.of0 {cs : List Nat} {w w' : World} (h : Gr [] w w') : Gr cs w w' := h.mono fun _ e => by cases e
theorem Gr.ofBelow {cs : List Nat} {w w' : World} (h : Below w.heap.size w w') : Gr cs w w' := ⟨h.os, h.tape, h.output, h.size, fun k hk _ => h.block k hk⟩
theorem Gr.next0 {bs : List Nat} {a b c : World} (h : Gr bs a b) (k : Gr [] b c) : Gr bs a c := h.trans k.of0
theorem Gr.nextB {bs : List Nat} {a b c : World} (h : Gr bs a b) (k : Below b.heap.size b c) : Gr bs a c := h.trans (.ofBelow k)
theorem Gr.nextN {bs cs : List Nat} {a b c : World} (h : Gr bs a b) (k : Gr cs b c) (hs : ∀ x ∈ cs, x ∈ bs ∨ a.heap.size ≤ x) : Gr bs a c :=
  ⟨k.os.trans h.os, k.tape.trans h.tape, k.output.trans h.output, Nat.le_trans h.size k.size, fun i hi hn => (k.block i (Nat.lt_of_lt_of_le hi h.size) (fun e => by rcases hs i e with q | q; exact hn q; omega)).trans (h.block i hi hn)⟩
theorem Gr.alloc {bs : List Nat} {a w : World} (h : Gr bs a w) (o : Obj) : Gr bs a (w.alloc o) :=
  h.trans ⟨rfl, rfl, rfl, by simp, fun k hk _ => Below.heap_alloc _ _ _ hk⟩
theorem Gr.setCell {bs : List Nat} {a w : World} (h : Gr bs a w) {p : Addr} (hp : p.block ∈ bs ∨ a.heap.size ≤ p.block) (u : Value) : Gr bs a (w.setCell p u) :=
  h.nextN (cs := [p.block]) ⟨rfl, rfl, rfl, by simp [World.setCell], fun k _ hn => Below.heap_setCell _ _ _ _ (fun e => hn (by simp [e]))⟩ (fun x hx => by simp at hx; subst hx; exact hp)
theorem Gr.drew {bs : List Nat} {a w : World} (h : Gr bs a w) : Gr bs a w.drew := ⟨h.os, h.tape, h.output, h.size, h.block⟩
theorem Gr.drewN {bs : List Nat} {a w : World} (h : Gr bs a w) (n : Nat) : Gr bs a (w.drewN n) := ⟨h.os, h.tape, h.output, h.size, h.block⟩
theorem Gr.grown {bs : List Nat} {a w w' : World} {row : Option Nat} (h : Gr bs a w) (hg : w.grownBy w' row) (hr : ∀ k, row = some k → k ∈ bs ∨ a.heap.size ≤ k) : Gr bs a w' :=
  h.nextN (cs := row.toList) ⟨hg.os, hg.tape, hg.output, hg.size, fun k hk hn => hg.block k hk (fun e => hn (by rw [← e]; simp))⟩ (fun x hx => hr x (by simpa using hx))
theorem Gr.below {bs : List Nat} {B : Nat} {w w' : World} (h : Gr bs w w') (hB : B ≤ w.heap.size) (hs : ∀ b ∈ bs, B ≤ b) : Below B w w' :=
  ⟨h.os, h.tape, h.output, h.size, fun k hk => h.block k (by omega) fun e => by have := hs k e; omega⟩
theorem Gr.below0 {w w' : World} (h : Gr [] w w') : Below w.heap.size w w' := h.below (Nat.le_refl _) fun _ e => by cases e
theorem Holds.gr {w w' : World} {b : Nat} {cs : Array Value} {t : TypeId} {bs : List Nat} (h : Holds w b cs t) (k : Gr bs w w') (hn : b ∉ bs) : Holds w' b cs t := (k.block b h.lt hn).trans h
theorem Holds.gr0 {w w' : World} {b : Nat} {cs : Array Value} {t : TypeId} (h : Holds w b cs t) (k : Gr [] w w') : Holds w' b cs t := h.gr k (by simp)
theorem own_gr {w w' : World} {base : Nat} {e : TypeId} {size n : Nat} {v : Value} {xs : List Value} {bs : List Nat} (h : w.ownsRow base e size v n xs) (k : Gr bs w w') (hn : ∀ b, v.ownBlock = some b → b ∉ bs) : w'.ownsRow base e size v n xs := by
  refine ⟨h.1, ?_⟩
  rcases h.2 with hz | ⟨g, cap, cur, rfl, hg, hh, rest⟩
  · exact .inl hz
  · exact .inr ⟨g, cap, cur, rfl, hg, (k.block g (Array.getElem?_eq_some_iff.1 hh).1 (hn g rfl)).trans hh, rest⟩
theorem own_gr0 {w w' : World} {base : Nat} {e : TypeId} {size n : Nat} {v : Value} {xs : List Value} (h : w.ownsRow base e size v n xs) (k : Gr [] w w') : w'.ownsRow base e size v n xs := own_gr h k fun _ _ => by simp

theorem Gr.cell0 {w w' : World} {b o : Nat} (h : Gr [] w w') (hb : b < w.heap.size) : w'.cell? ⟨b, o, none⟩ = w.cell? ⟨b, o, none⟩ := World.cell?_of_block (w := w) (h.block b hb (by simp))
end Go.Proofs.YtefmbchebobceaaGreat

/-
  Layer 5: plans.
-/
namespace Go.Proofs.YtefmbchebobceaaGreat
open Go.RowKit

structure PlanZ where
  a : Int
  l : Int
  s : Int
def okZ (p : PlanZ) : Bool := decide (0 ≤ p.a ∧ p.a ≤ 8192 ∧ 1 ≤ p.l ∧ p.l ≤ 1026 ∧ 0 ≤ p.s ∧ p.s ≤ 64)
def tabZ (p : PlanZ) : Int := (p.s + 7) / 8
def sizeZ (p : PlanZ) : Int := if okZ p then tabZ p + p.l + p.s else 0
def checkZ (p : PlanZ) (n : Int) : Int := if okZ p then (if n < p.a + sizeZ p then 3 else 0) else 2
def planV (p : PlanZ) : Value := .agg #[.int .i64 p.a, .int .i64 p.l, .int .i64 p.s]
theorem okZ_iff (p : PlanZ) : okZ p = true ↔ 0 ≤ p.a ∧ p.a ≤ 8192 ∧ 1 ≤ p.l ∧ p.l ≤ 1026 ∧ 0 ≤ p.s ∧ p.s ≤ 64 := by unfold okZ; rw [decide_eq_true_eq]
theorem okZ_no (p : PlanZ) (h : ¬ (0 ≤ p.a ∧ p.a ≤ 8192 ∧ 1 ≤ p.l ∧ p.l ≤ 1026 ∧ 0 ≤ p.s ∧ p.s ≤ 64)) : okZ p = false := by unfold okZ; exact decide_eq_false h
set_option maxHeartbeats 2000000 in
theorem right_any (p : PlanZ) (w : World) : Calls Tryz.prog 134 #[planV p] w fun e w' => e = .returned (.bool (okZ p)) ∧ Below w.heap.size w w' := by
  obtain ⟨a, l, s⟩ := p
  unfold planV
  simp only
  have HB := Lib.hid ((Below.refl w.heap.size w).alloc (Nat.le_refl _) (Obj.cells #[.int .i64 a, .int .i64 l, .int .i64 s] 153))
  by_cases h : 0 ≤ a ∧ a ≤ 8192 ∧ 1 ≤ l ∧ l ≤ 1026 ∧ 0 ≤ s ∧ s ≤ 64
  · rw [(okZ_iff ⟨a, l, s⟩).2 h]
    obtain ⟨h1, h2, h3, h4, h5, h6⟩ := h
    go_enter Tryz.func134, Tryz.ntmps134
    go_wp2
    go_ret
    exact ⟨rfl, HB.out⟩
  · rw [okZ_no ⟨a, l, s⟩ h]
    by_cases h1 : 0 ≤ a
    · by_cases h2 : a ≤ 8192
      · by_cases h3 : 1 ≤ l
        · by_cases h4 : l ≤ 1026
          · by_cases h5 : 0 ≤ s
            · have h6 : ¬ s ≤ 64 := fun q => h ⟨h1, h2, h3, h4, h5, q⟩
              clear h
              go_enter Tryz.func134, Tryz.ntmps134
              go_wp2
              go_ret
              exact ⟨rfl, HB.out⟩
            · clear h
              go_enter Tryz.func134, Tryz.ntmps134
              go_wp2
              go_ret
              exact ⟨rfl, HB.out⟩
          · clear h
            go_enter Tryz.func134, Tryz.ntmps134
            go_wp2
            go_ret
            exact ⟨rfl, HB.out⟩
        · clear h
          go_enter Tryz.func134, Tryz.ntmps134
          go_wp2
          go_ret
          exact ⟨rfl, HB.out⟩
      · clear h
        go_enter Tryz.func134, Tryz.ntmps134
        go_wp2
        go_ret
        exact ⟨rfl, HB.out⟩
    · clear h
      go_enter Tryz.func134, Tryz.ntmps134
      go_wp2
      go_ret
      exact ⟨rfl, HB.out⟩
theorem table_any (p : PlanZ) (hp : okZ p = true) (w : World) : Calls Tryz.prog 135 #[planV p] w fun e w' => e = .returned (.int .i64 (tabZ p)) ∧ Below w.heap.size w w' := by
  obtain ⟨a, l, s⟩ := p
  obtain ⟨h1, h2, h3, h4, h5, h6⟩ := (okZ_iff _).1 hp
  simp only at h1 h2 h3 h4 h5 h6
  unfold planV tabZ
  simp only
  have HB := Lib.hid ((Below.refl w.heap.size w).alloc (Nat.le_refl _) (Obj.cells #[.int .i64 a, .int .i64 l, .int .i64 s] 153))
  clear hp
  go_enter Tryz.func135, Tryz.ntmps135
  go_wp2
  go_ret
  exact ⟨by simp [show s + 8 - 1 = s + 7 by omega], HB.out⟩
end Go.Proofs.YtefmbchebobceaaGreat

/-
  Layer 5: a plan's Size, Check, places.
-/
namespace Go.Proofs.YtefmbchebobceaaGreat
open Go.RowKit

theorem plan_cells (p : PlanZ) (w : World) : (w.alloc (Obj.cells #[.int .i64 p.a, .int .i64 p.l, .int .i64 p.s] 153)).cell? ⟨w.heap.size, 0, none⟩ = some (.int .i64 p.a) ∧ (w.alloc (Obj.cells #[.int .i64 p.a, .int .i64 p.l, .int .i64 p.s] 153)).cell? ⟨w.heap.size, 1, none⟩ = some (.int .i64 p.l) ∧ (w.alloc (Obj.cells #[.int .i64 p.a, .int .i64 p.l, .int .i64 p.s] 153)).cell? ⟨w.heap.size, 2, none⟩ = some (.int .i64 p.s) := (Holds.new w _ _).three
theorem below_plan (p : PlanZ) (w : World) : Below w.heap.size w (w.alloc (Obj.cells #[.int .i64 p.a, .int .i64 p.l, .int .i64 p.s] 153)) := (Below.refl _ w).alloc (Nat.le_refl _) _
set_option maxHeartbeats 4000000 in
theorem size_any (p : PlanZ) (w : World) : Calls Tryz.prog 86 #[planV p] w fun e w' => e = .returned (.int .i64 (sizeZ p)) ∧ Below w.heap.size w w' := by
  obtain ⟨c0, c1, c2⟩ := plan_cells p w
  have HB := Lib.hid (below_plan p w)
  have HR := Lib.hid (fun W => show Calls Tryz.prog 134 #[.agg #[.int .i64 p.a, .int .i64 p.l, .int .i64 p.s]] W _ from right_any p W)
  obtain ⟨w1, hw1⟩ : ∃ w1, w1 = w.alloc (Obj.cells #[.int .i64 p.a, .int .i64 p.l, .int .i64 p.s] 153) := ⟨_, rfl⟩
  have hl : w.heap.size < w1.heap.size := by rw [hw1, World.size_alloc]; omega
  by_cases hp : okZ p = true
  · rw [hp] at HR
    have hs : sizeZ p = tabZ p + p.l + p.s := by unfold sizeZ; rw [if_pos hp]
    obtain ⟨h1, h2, h3, h4, h5, h6⟩ := (okZ_iff p).1 hp
    have HT := Lib.hid (fun W => show Calls Tryz.prog 135 #[.agg #[.int .i64 p.a, .int .i64 p.l, .int .i64 p.s]] W _ from table_any p hp W)
    have ht : 0 ≤ tabZ p ∧ tabZ p ≤ 8 := by unfold tabZ; omega
    obtain ⟨t, htt⟩ : ∃ t, t = tabZ p := ⟨_, rfl⟩
    rw [← htt] at HT hs ht
    obtain ⟨ht0, ht8⟩ := ht
    have HS := Lib.hid hs
    clear hp hs htt
    unfold planV
    go_enter Tryz.func86, Tryz.ntmps86
    go_wp2_with fail
    rw [← hw1] at c0 c1 c2 HB ⊢
    clear hw1
    refine (HR.out _).mono ?_
    rintro e w2 ⟨rfl, hb2⟩
    replace c0 := (hb2.cell (p := ⟨w.heap.size, 0, none⟩) hl).trans c0
    replace c1 := (hb2.cell (p := ⟨w.heap.size, 1, none⟩) hl).trans c1
    replace c2 := (hb2.cell (p := ⟨w.heap.size, 2, none⟩) hl).trans c2
    have HB2 := Lib.hid (Below_nx HB.out hb2)
    have k0 := kp_cell c0
    have k1 := kp_cell c1
    have k2 := kp_cell c2
    have hne := kp_ne w2
    clear hb2
    have i1 : IntKind.i64.wrap (t + p.l) = t + p.l := IntWalk.i64_in _ (by omega)
    have i2 : IntKind.i64.wrap (t + p.l + p.s) = t + p.l + p.s := IntWalk.i64_in _ (by omega)
    go_wp2_with fail
    refine wp_region_kp (by kernel_rfl) (by kernel_rfl) ?_
    repeat (go_big_quiet_step ((rename_i x; exact kp_call x (HT.out _))))
    with_reducible refine wpQuiet_nil ?_
    rintro _ ⟨y, rfl⟩
    have HBy := Lib.hid (Below_nx HB2.out y.h)
    clear k0 k1 k2 hne
    generalize y.w = w3 at *
    clear y
    go_wp2_with fail
    go_ret
    exact ⟨by rw [HS.out]; rfl, HBy.out⟩
  · have hp : okZ p = false := by simpa using hp
    rw [hp] at HR
    have hs : sizeZ p = 0 := by unfold sizeZ; rw [hp]; rfl
    rw [hs]
    clear hp hs
    unfold planV
    go_enter Tryz.func86, Tryz.ntmps86
    go_wp2_with fail
    refine (HR.out _).mono ?_
    rintro e w2 ⟨rfl, hb2⟩
    have HB2 := Lib.hid (Below_nx HB.out hb2)
    clear hb2
    go_wp2_with fail
    go_ret
    exact ⟨rfl, HB2.out⟩
set_option maxHeartbeats 4000000 in
theorem lineat_any (p : PlanZ) (hp : okZ p = true) (i : Int) (h0 : 0 ≤ i) (h9 : i ≤ 65536) (w : World) : Calls Tryz.prog 187 #[planV p, .int .i64 i] w fun e w' => e = .returned (.int .i64 (p.a + tabZ p + i)) ∧ Below w.heap.size w w' := by
  obtain ⟨c0, c1, c2⟩ := plan_cells p w
  have HB := Lib.hid (below_plan p w)
  obtain ⟨w1, hw1⟩ : ∃ w1, w1 = w.alloc (Obj.cells #[.int .i64 p.a, .int .i64 p.l, .int .i64 p.s] 153) := ⟨_, rfl⟩
  obtain ⟨h1, h2, h3, h4, h5, h6⟩ := (okZ_iff p).1 hp
  have HT := Lib.hid (fun W => show Calls Tryz.prog 135 #[.agg #[.int .i64 p.a, .int .i64 p.l, .int .i64 p.s]] W _ from table_any p hp W)
  have ht : 0 ≤ tabZ p ∧ tabZ p ≤ 8 := by unfold tabZ; omega
  obtain ⟨t, htt⟩ : ∃ t, t = tabZ p := ⟨_, rfl⟩
  rw [← htt] at HT ht ⊢
  obtain ⟨ht0, ht8⟩ := ht
  clear hp htt
  unfold planV
  go_enter Tryz.func187, Tryz.ntmps187
  go_wp2_with fail
  rw [← hw1] at c0 c1 c2 HB ⊢
  clear hw1
  have k0 := kp_cell c0
  have k1 := kp_cell c1
  have k2 := kp_cell c2
  have hne := kp_ne w1
  have i0 : IntKind.i64.wrap (p.a + t) = p.a + t := IntWalk.i64_in _ (by omega)
  have i1 : IntKind.i64.wrap (p.a + t + i) = p.a + t + i := IntWalk.i64_in _ (by omega)
  refine wp_region_kp (by kernel_rfl) (by kernel_rfl) ?_
  repeat (go_big_quiet_step ((rename_i x; exact kp_call x (HT.out _))))
  with_reducible refine wpQuiet_nil ?_
  rintro _ ⟨y, rfl⟩
  have HBy := Lib.hid (Below_nx HB.out y.h)
  clear k0 k1 k2 hne
  generalize y.w = w3 at *
  clear y
  go_wp2_with fail
  go_ret
  exact ⟨rfl, HBy.out⟩
set_option maxHeartbeats 4000000 in
theorem spareat_any (p : PlanZ) (hp : okZ p = true) (k : Int) (h0 : 0 ≤ k) (h9 : k ≤ 65536) (w : World) : Calls Tryz.prog 186 #[planV p, .int .i64 k] w fun e w' => e = .returned (.int .i64 (p.a + tabZ p + p.l + k)) ∧ Below w.heap.size w w' := by
  obtain ⟨c0, c1, c2⟩ := plan_cells p w
  have HB := Lib.hid (below_plan p w)
  obtain ⟨w1, hw1⟩ : ∃ w1, w1 = w.alloc (Obj.cells #[.int .i64 p.a, .int .i64 p.l, .int .i64 p.s] 153) := ⟨_, rfl⟩
  obtain ⟨h1, h2, h3, h4, h5, h6⟩ := (okZ_iff p).1 hp
  have HT := Lib.hid (fun W => show Calls Tryz.prog 135 #[.agg #[.int .i64 p.a, .int .i64 p.l, .int .i64 p.s]] W _ from table_any p hp W)
  have ht : 0 ≤ tabZ p ∧ tabZ p ≤ 8 := by unfold tabZ; omega
  obtain ⟨t, htt⟩ : ∃ t, t = tabZ p := ⟨_, rfl⟩
  rw [← htt] at HT ht ⊢
  obtain ⟨ht0, ht8⟩ := ht
  clear hp htt
  unfold planV
  go_enter Tryz.func186, Tryz.ntmps186
  go_wp2_with fail
  rw [← hw1] at c0 c1 c2 HB ⊢
  clear hw1
  have k0 := kp_cell c0
  have k1 := kp_cell c1
  have k2 := kp_cell c2
  have hne := kp_ne w1
  have i0 : IntKind.i64.wrap (p.a + t) = p.a + t := IntWalk.i64_in _ (by omega)
  have i1 : IntKind.i64.wrap (p.a + t + p.l) = p.a + t + p.l := IntWalk.i64_in _ (by omega)
  have i2 : IntKind.i64.wrap (p.a + t + p.l + k) = p.a + t + p.l + k := IntWalk.i64_in _ (by omega)
  refine wp_region_kp (by kernel_rfl) (by kernel_rfl) ?_
  repeat (go_big_quiet_step ((rename_i x; exact kp_call x (HT.out _))))
  with_reducible refine wpQuiet_nil ?_
  rintro _ ⟨y, rfl⟩
  have HBy := Lib.hid (Below_nx HB.out y.h)
  clear k0 k1 k2 hne
  generalize y.w = w3 at *
  clear y
  go_wp2_with fail
  go_ret
  exact ⟨rfl, HBy.out⟩
set_option maxHeartbeats 4000000 in
theorem check_any (p : PlanZ) (n : Int) (w : World) : Calls Tryz.prog 133 #[planV p, .int .i64 n] w fun e w' => e = .returned (.int .i64 (checkZ p n)) ∧ Below w.heap.size w w' := by
  obtain ⟨c0, c1, c2⟩ := plan_cells p w
  have HB := Lib.hid (below_plan p w)
  have HR := Lib.hid (fun W => show Calls Tryz.prog 134 #[.agg #[.int .i64 p.a, .int .i64 p.l, .int .i64 p.s]] W _ from right_any p W)
  obtain ⟨w1, hw1⟩ : ∃ w1, w1 = w.alloc (Obj.cells #[.int .i64 p.a, .int .i64 p.l, .int .i64 p.s] 153) := ⟨_, rfl⟩
  have hl : w.heap.size < w1.heap.size := by rw [hw1, World.size_alloc]; omega
  by_cases hp : okZ p = true
  · rw [hp] at HR
    obtain ⟨h1, h2, h3, h4, h5, h6⟩ := (okZ_iff p).1 hp
    have HT := Lib.hid (fun W => show Calls Tryz.prog 86 #[.agg #[.int .i64 p.a, .int .i64 p.l, .int .i64 p.s]] W _ from size_any p W)
    have ht : 0 ≤ sizeZ p ∧ sizeZ p ≤ 2000 := by unfold sizeZ tabZ; rw [if_pos hp]; omega
    have hc : checkZ p n = if n < p.a + sizeZ p then 3 else 0 := by unfold checkZ; rw [if_pos hp]
    obtain ⟨t, htt⟩ : ∃ t, t = sizeZ p := ⟨_, rfl⟩
    rw [← htt] at HT ht hc
    obtain ⟨ht0, ht8⟩ := ht
    have HC := Lib.hid hc
    clear hp htt hc
    have i1 : IntKind.i64.wrap (p.a + t) = p.a + t := IntWalk.i64_in _ (by omega)
    unfold planV
    by_cases hlt : n < p.a + t
    · have HC2 := Lib.hid (show checkZ p n = 3 by rw [HC.out, if_pos hlt])
      have d1 : decide (n < p.a + t) = true := decide_eq_true hlt
      clear hlt
      go_enter Tryz.func133, Tryz.ntmps133
      go_wp2_with fail
      rw [← hw1] at c0 c1 c2 HB ⊢
      clear hw1
      refine (HR.out _).mono ?_
      rintro e w2 ⟨rfl, hb2⟩
      replace c0 := (hb2.cell (p := ⟨w.heap.size, 0, none⟩) hl).trans c0
      replace c1 := (hb2.cell (p := ⟨w.heap.size, 1, none⟩) hl).trans c1
      replace c2 := (hb2.cell (p := ⟨w.heap.size, 2, none⟩) hl).trans c2
      have HB2 := Lib.hid (Below_nx HB.out hb2)
      have k0 := kp_cell c0
      have k1 := kp_cell c1
      have k2 := kp_cell c2
      have hne := kp_ne w2
      clear hb2
      go_wp2_with fail
      refine wp_region_kp (by kernel_rfl) (by kernel_rfl) ?_
      repeat (go_big_quiet_step ((rename_i x; exact kp_call x (HT.out _))))
      with_reducible refine wpQuiet_nil ?_
      rintro _ ⟨y, rfl⟩
      have HBy := Lib.hid (Below_nx HB2.out y.h)
      clear k0 k1 k2 hne
      generalize y.w = w3 at *
      clear y
      go_wp2_with fail
      go_ret
      exact ⟨by rw [HC2.out]; rfl, HBy.out⟩
    · have HC2 := Lib.hid (show checkZ p n = 0 by rw [HC.out, if_neg hlt])
      have d1 : decide (n < p.a + t) = false := decide_eq_false hlt
      clear hlt
      go_enter Tryz.func133, Tryz.ntmps133
      go_wp2_with fail
      rw [← hw1] at c0 c1 c2 HB ⊢
      clear hw1
      refine (HR.out _).mono ?_
      rintro e w2 ⟨rfl, hb2⟩
      replace c0 := (hb2.cell (p := ⟨w.heap.size, 0, none⟩) hl).trans c0
      replace c1 := (hb2.cell (p := ⟨w.heap.size, 1, none⟩) hl).trans c1
      replace c2 := (hb2.cell (p := ⟨w.heap.size, 2, none⟩) hl).trans c2
      have HB2 := Lib.hid (Below_nx HB.out hb2)
      have k0 := kp_cell c0
      have k1 := kp_cell c1
      have k2 := kp_cell c2
      have hne := kp_ne w2
      clear hb2
      go_wp2_with fail
      refine wp_region_kp (by kernel_rfl) (by kernel_rfl) ?_
      repeat (go_big_quiet_step ((rename_i x; exact kp_call x (HT.out _))))
      with_reducible refine wpQuiet_nil ?_
      rintro _ ⟨y, rfl⟩
      have HBy := Lib.hid (Below_nx HB2.out y.h)
      clear k0 k1 k2 hne
      generalize y.w = w3 at *
      clear y
      go_wp2_with fail
      go_ret
      exact ⟨by rw [HC2.out]; rfl, HBy.out⟩
  · have hp : okZ p = false := by simpa using hp
    rw [hp] at HR
    have hs : checkZ p n = 2 := by unfold checkZ; rw [hp]; rfl
    rw [hs]
    clear hp hs
    unfold planV
    go_enter Tryz.func133, Tryz.ntmps133
    go_wp2_with fail
    refine (HR.out _).mono ?_
    rintro e w2 ⟨rfl, hb2⟩
    have HB2 := Lib.hid (Below_nx HB.out hb2)
    clear hb2
    go_wp2_with fail
    go_ret
    exact ⟨rfl, HB2.out⟩
end Go.Proofs.YtefmbchebobceaaGreat
