/-
  Layer 17 (dir): the state of DirPlays behind so many acts.
-/
import Derived.Test.YtefiapmgdjlnnaaDoorDnAa
import Derived.Test.YtefiapmgdjlnnaaDoorDnAb
import Derived.Test.YtefiapmgdjlnnaaDoorDnAc
import Derived.Test.YtefiapmgdjlnnaaDoorDnAd
import Derived.Test.YtefiapmgdjlnnaaDoorDnAe
import Derived.Test.YtefiapmgdjlnnaaDoorDnAf
import Derived.Test.YtefiapmgdjlnnaaDoorDnAg
import Derived.Test.YtefiapmgdjlnnaaDoorDnAh
import Derived.Test.YtefiapmgdjlnnaaDoorDnAi
import Derived.Test.YtefiapmgdjlnnaaDoorDqAi

namespace Go.Proofs.YtefiapmgdjlnnaaDoor
open Go.RowKit Go.Shelf
set_option linter.unusedVariables false

/-- The directory d in memory, and the document's m: the row of its entries, and the variable it lies in. -/
structure Lw (w wr : World) (A : DiA) (F : ByteArray → Option Nat) (N : List ByteArray) (mb base : Nat) (vm nm v : Value) (L : List Ent) (n : Nat) : Prop where
  gr : Gr [] w wr
  d : DiIs wr A F N
  al : ∀ x ∈ A.all, w.heap.size ≤ x
  m : Holds wr mb #[vm, nm] 27
  e : EntR wr base v L
  s : SrtF F L
  ok : ∀ x ∈ L, nameP x.1.data.toList = true ∧ x.2 ≤ 65535
  len : N.length ≤ n
  nb : A.nb ≤ 32
  lo : w.heap.size ≤ mb
  f1 : mb ∉ A.all
  f2 : ∀ g, v.ownBlock = some g → g ∉ A.all ∧ g ≠ mb
section
variable {w wr w2 w3 W : World} {A A' : DiA} {F : ByteArray → Option Nat} {N : List ByteArray} {mb base base' n k : Nat} {vm nm v v' : Value} {L : List Ent} {s : ByteArray}
theorem Lw.gr0 (h : Lw w wr A F N mb base vm nm v L n) (g : Gr [] wr W) : Lw w W A F N mb base vm nm v L n :=
  ⟨h.gr.next0 g, h.d.gr0 g, h.al, h.m.gr0 g, h.e.gr0 g, h.s, h.ok, h.len, h.nb, h.lo, h.f1, h.f2⟩
theorem Lw.more (h : Lw w wr A F N mb base vm nm v L n) : Lw w wr A F N mb base vm nm v L (n + 1) :=
  ⟨h.gr, h.d, h.al, h.m, h.e, h.s, h.ok, by have := h.len; omega, h.nb, h.lo, h.f1, h.f2⟩
theorem Lw.ll (h : Lw w wr A F N mb base vm nm v L n) : L.length = N.length := h.s.len h.d.ok
theorem Lw.lv (h : Lw w wr A F N mb base vm nm v L n) : ∀ g, v.ownBlock = some g → g < wr.heap.size := fun g hg => (World.ownsRow.lt h.e g hg).2
theorem Lw.sz (h : Lw w wr A F N mb base vm nm v L n) : ∀ x ∈ L, 1 ≤ x.1.size ∧ x.1.size ≤ 2000 := fun x hx => by
  have h1 := nameP_size (h.ok x hx).1
  have h2 := (h.ok x hx).1
  unfold nameP at h2
  simp only [Bool.and_eq_true, decide_eq_true_eq] at h2
  have h3 : x.1.data.toList.length = x.1.size := rfl
  omega
theorem Lw.same (h : Lw w wr A F N mb base vm nm v L n) (hn : n ≤ 1000) : Calls Tryd.prog 16 #[.pointer (some ⟨A.db, 0, none⟩), .agg #[v, .int .i64 (A.nb : Int)]] wr fun e w' => e = .returned (.bool true) ∧ Gr [] wr w' :=
  same_any h.d h.e h.s rfl h.sz (by have := h.len; omega)
/-- The document's m is written. -/
theorem Lw.store (h : Lw w wr A F N mb base vm nm v L n) : Lw w ((wr.setCell ⟨mb, 0, none⟩ v).setCell ⟨mb, 1, none⟩ (.int .i64 (A.nb : Int))) A F N mb base v (.int .i64 (A.nb : Int)) v L n := by
  have g : Gr [mb] wr ((wr.setCell ⟨mb, 0, none⟩ v).setCell ⟨mb, 1, none⟩ (.int .i64 (A.nb : Int))) := ((Gr.refl _ _).setCell (p := ⟨mb, 0, none⟩) (.inl (List.mem_singleton.2 rfl)) _).setCell (p := ⟨mb, 1, none⟩) (.inl (List.mem_singleton.2 rfl)) _
  refine ⟨h.gr.nextN g fun x hx => .inr (by rw [List.mem_singleton] at hx; have := h.lo; omega), h.d.gr g fun x hx q => h.f1 (by rw [List.mem_singleton] at q; rw [← q]; exact hx), h.al, ?_, h.e.gr g fun b hb q => (h.f2 b hb).2 (List.mem_singleton.1 q), h.s, h.ok, h.len, h.nb, h.lo, h.f1, h.f2⟩
  have r := (h.m.set 0 v).set 1 (.int .i64 (A.nb : Int))
  simpa using r
/-- The document's behind a step of the program's. -/
theorem Lw.mid (h : Lw w wr A F N mb base vm nm v L n) (g : Gr A.all wr w2) : EntR w2 base v L ∧ Holds w2 mb #[vm, nm] 27 ∧ ∀ x, v.ownBlock = some x → x < w2.heap.size :=
  ⟨h.e.gr g fun b hb => (h.f2 b hb).1, h.m.gr g h.f1, fun x hx => Nat.lt_of_lt_of_le (h.lv x hx) g.size⟩
theorem grow_eq (h : Lw w wr A F N mb base vm nm v L n) (hk : NmOk (updT F s (some k)) (putN F N s)) : growE A.nb L (insE L s k) = growB A.nb F N s := by
  have h1 := h.ll
  have h2 := (insE_srt h.s s k).len hk
  unfold growE growB
  rw [h1, h2]
  unfold putN
  cases c : (F s).isSome with
  | true => rw [if_neg (by simp), if_pos (by rfl)]
  | false =>
    simp only [Bool.false_eq_true, if_false, List.length_cons]
    by_cases d : 4 * A.nb < N.length + 1
    · rw [if_pos ⟨by omega, d⟩, if_pos d]
    · rw [if_neg fun q => d q.2, if_neg d]
theorem insE_ok (h : ∀ x ∈ L, nameP x.1.data.toList = true ∧ x.2 ≤ 65535) (hn : nameP s.data.toList = true) (hk : k ≤ 65535) : ∀ x ∈ insE L s k, nameP x.1.data.toList = true ∧ x.2 ≤ 65535 := fun x hx => by
  unfold insE at hx
  rcases List.mem_append.1 hx with hx | hx
  · exact h x (List.mem_filter.1 hx).1
  · rcases List.mem_cons.1 hx with rfl | hx
    · exact ⟨hn, hk⟩
    · exact h x (List.mem_filter.1 hx).1
/-- A Put. -/
theorem Lw.put (h : Lw w wr A F N mb base vm nm v L n) (hn60 : n ≤ 60) (hn : nameP s.data.toList = true) (hk : k ≤ 65535) (h1 : A'.nb = growB A.nb F N s) (h2 : DiIs w2 A' (updT F s (some k)) (putN F N s)) (h3 : ∀ x ∈ A'.all, x ∈ A.all ∨ wr.heap.size ≤ x) (g : Gr A.all wr w2) (he : EntR w3 w2.heap.size v' (insE L s k)) (g3 : Gr [] w2 w3) :
    Lw w w3 A' (updT F s (some k)) (putN F N s) mb w2.heap.size vm nm v' (insE L s k) (n + 1) := by
  have hp : (putN F N s).length ≤ N.length + 1 := by unfold putN; split <;> simp
  have hl := h.len
  refine ⟨(h.gr.nextN g fun x hx => .inr (h.al x hx)).next0 g3, h2.gr0 g3, fun x hx => ?_, (h.m.gr g h.f1).gr0 g3, he, insE_srt h.s s k, insE_ok h.ok hn hk, by omega, ?_, h.lo, fun q => ?_, fun x hx => ?_⟩
  · rcases h3 x hx with q | q
    · exact h.al x q
    · have := h.gr.size; omega
  · rw [h1]
    unfold growB
    have := h.nb
    split
    · omega
    · split <;> omega
  · rcases h3 mb q with q | q
    · exact h.f1 q
    · have := h.m.lt; omega
  · have hb := (World.ownsRow.lt he x hx).1
    have hm := (h.m.gr g h.f1).lt
    exact ⟨fun q => by have := h2.lt x q; omega, by omega⟩
theorem remE_ok (h : ∀ x ∈ L, nameP x.1.data.toList = true ∧ x.2 ≤ 65535) : ∀ x ∈ remE L s, nameP x.1.data.toList = true ∧ x.2 ≤ 65535 := fun x hx => h x (List.mem_filter.1 hx).1
/-- A Drop. -/
theorem Lw.drop (h : Lw w wr A F N mb base vm nm v L n) (h2 : DiIs w2 A (updT F s none) (dropN N s)) (g : Gr A.all wr w2) (he : EntR w3 w2.heap.size v' (remE L s)) (g3 : Gr [] w2 w3) :
    Lw w w3 A (updT F s none) (dropN N s) mb w2.heap.size vm nm v' (remE L s) (n + 1) := by
  have hp : (dropN N s).length ≤ N.length := List.length_filter_le _ _
  have hl := h.len
  refine ⟨(h.gr.nextN g fun x hx => .inr (h.al x hx)).next0 g3, h2.gr0 g3, h.al, (h.m.gr g h.f1).gr0 g3, he, remE_srt h.s s, remE_ok h.ok, by omega, h.nb, h.lo, h.f1, fun x hx => ?_⟩
  have hb := (World.ownsRow.lt he x hx).1
  have hm := (h.m.gr g h.f1).lt
  exact ⟨fun q => by have := h2.lt x q; omega, by omega⟩
/-- A Copy. -/
theorem Lw.copy (h : Lw w wr A F N mb base vm nm v L n) (h1 : A'.nb = A.nb) (h2 : DiIs w2 A' F N) (h3 : ∀ x ∈ A'.all, wr.heap.size ≤ x) (g : Gr [] wr w2) : Lw w w2 A' F N mb base vm nm v L n :=
  ⟨h.gr.next0 g, h2, fun x hx => by have := h3 x hx; have := h.gr.size; omega, h.m.gr0 g, h.e.gr0 g, h.s, h.ok, h.len, by rw [h1]; exact h.nb, h.lo, fun q => by have := h3 mb q; have := h.m.lt; omega, fun x hx => ⟨fun q => by have := h3 x q; have := h.lv x hx; omega, (h.f2 x hx).2⟩⟩
theorem Lw.uniq (h : Lw w wr A F N mb base vm nm v L n) {a : Nat} (ha : a < L.length) (hs : L[a].1 = s) : ∀ i (hi : i < L.length), L[i].1 = s ↔ i = a := fun i hi => by
  constructor
  · intro q
    rcases Nat.lt_trichotomy i a with c | c | c
    · have := List.pairwise_iff_getElem.1 h.s.up i a hi ha c
      rw [q, hs] at this
      exact absurd this (List.lt_irrefl _)
    · exact c
    · have := List.pairwise_iff_getElem.1 h.s.up a i ha hi c
      rw [q, hs] at this
      exact absurd this (List.lt_irrefl _)
  · rintro rfl
    exact hs
end
end Go.Proofs.YtefiapmgdjlnnaaDoor
