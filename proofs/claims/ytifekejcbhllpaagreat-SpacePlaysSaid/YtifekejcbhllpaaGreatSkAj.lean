/-
  SkAj: SqP, SqB, RegT, SpA.
-/
import Derived.Test.YtifekejcbhllpaaGreatSkAi
import Derived.Test.YtifekejcbhllpaaGreatSkAa
import Derived.Shelf.Strings.BuilderK
import Derived.StillTailTactics
import Derived.IntWalk

set_option linter.unusedVariables false

/-
  Layer 11, pure: bytes of texts, a text laid into another.
-/
namespace Go.Proofs.YtifekejcbhllpaaGreat
open Go.RowKit
set_option linter.unusedVariables false

/-- Byte i; nought behind the end. -/
def btS (l : List UInt8) (i : Nat) : UInt8 := l.getD i 0
theorem btS_get (l : List UInt8) (i : Nat) (h : i < l.length) : btS l i = l[i] := by simp [btS, h]
theorem ext_btS {a b : List UInt8} (h : a.length = b.length) (e : ∀ i, i < a.length → btS a i = btS b i) : a = b := by
  apply List.ext_getElem h
  intro i h1 h2
  have := e i h1
  rwa [btS_get a i h1, btS_get b i h2] at this
theorem btS_append (a b : List UInt8) (i : Nat) : btS (a ++ b) i = if i < a.length then btS a i else btS b (i - a.length) := by
  unfold btS
  split
  · rename_i h; simp [List.getD, List.getElem?_append_left h]
  · rename_i h; simp [List.getD, List.getElem?_append_right (Nat.le_of_not_lt h)]
theorem btS_take (a : List UInt8) (n i : Nat) : btS (a.take n) i = if i < n then btS a i else 0 := by
  unfold btS
  split
  · rename_i h; simp [List.getD, List.getElem?_take_of_lt h]
  · rename_i h; simp [List.getD, List.getElem?_take, h]
theorem btS_drop (a : List UInt8) (n i : Nat) : btS (a.drop n) i = btS a (n + i) := by
  simp [btS, List.getD, List.getElem?_drop]
/-- A text's byte. -/
def bs (s : ByteArray) (i : Nat) : UInt8 := btS s.data.toList i
theorem bs_len (s : ByteArray) : s.data.toList.length = s.size := rfl
theorem bs_ext {a b : ByteArray} (h : a.size = b.size) (e : ∀ i, i < a.size → bs a i = bs b i) : a = b :=
  ByteArray.ext (Array.ext' (ext_btS (by rw [bs_len, bs_len]; exact h) (fun i hi => e i hi)))
theorem bs_append (a b : ByteArray) (i : Nat) : bs (a ++ b) i = if i < a.size then bs a i else bs b (i - a.size) := by
  unfold bs
  rw [ByteArray.data_append, Array.toList_append, btS_append]
  rfl
theorem bs_extract (a : ByteArray) (x y i : Nat) (h : x + i < y) : bs (a.extract x y) i = bs a (x + i) := by
  unfold bs
  rw [ByteArray.data_extract, Array.toList_extract]
  show btS ((a.data.toList.drop x).take (y - x)) i = _
  rw [btS_take, if_pos (by omega), btS_drop]
/-- A text laid into another. -/
def splB (B : ByteArray) (at' : Nat) (b : ByteArray) : ByteArray := B.extract 0 at' ++ b ++ B.extract (at' + b.size) B.size
section
variable {B b p l : ByteArray} {k j j2 L m i : Nat}
theorem splB_size (h : k + b.size ≤ B.size) : (splB B k b).size = B.size := by
  unfold splB
  rw [ByteArray.size_append, ByteArray.size_append, ByteArray.size_extract, ByteArray.size_extract]
  omega
theorem splB_bs (h : k + b.size ≤ B.size) (hi : i < B.size) : bs (splB B k b) i = if i < k then bs B i else if i < k + b.size then bs b (i - k) else bs B i := by
  unfold splB
  rw [bs_append, bs_append, ByteArray.size_append, ByteArray.size_extract]
  have e1 : min k B.size - 0 = k := by omega
  rw [e1]
  by_cases h1 : i < k
  · rw [if_pos h1, if_pos (by omega), if_pos h1, bs_extract _ _ _ _ (by omega), Nat.zero_add]
  · rw [if_neg h1]
    by_cases h2 : i < k + b.size
    · rw [if_pos h2, if_pos h2, if_neg h1]
    · rw [if_neg h2, if_neg h1, if_neg h2, bs_extract _ _ _ _ (by omega), show k + b.size + (i - (k + b.size)) = i by omega]
theorem ext_size (h : j2 ≤ b.size) (h2 : j ≤ j2) : (b.extract j j2).size = j2 - j := by
  rw [ByteArray.size_extract]
  omega
theorem splB_nil (h : k ≤ B.size) : splB B k (b.extract j j) = B := by
  have h0 : (b.extract j j).size = 0 := by rw [ByteArray.size_extract]; omega
  refine bs_ext (splB_size (by omega)) fun i hi => ?_
  rw [splB_size (by omega)] at hi
  rw [splB_bs (by omega) hi, h0]
  split
  · rfl
  · rw [if_neg (by omega)]
theorem splB_all (h : k + b.size ≤ B.size) : splB B k (b.extract 0 b.size) = splB B k b := by
  have h0 := ext_size (b := b) (j := 0) (Nat.le_refl _) (Nat.zero_le _)
  refine bs_ext (by rw [splB_size (by omega), splB_size h]) fun i hi => ?_
  rw [splB_size (by omega)] at hi
  rw [splB_bs (by omega) hi, splB_bs h hi, h0, Nat.sub_zero]
  split
  · rfl
  · split
    · rw [bs_extract _ _ _ _ (by omega), Nat.zero_add]
    · rfl
/-- Part by part. -/
theorem splB_step (h : k + b.size ≤ B.size) (h1 : j ≤ j2) (h2 : j2 ≤ b.size) : splB (splB B k (b.extract 0 j)) (k + j) (b.extract j j2) = splB B k (b.extract 0 j2) := by
  have s0 := ext_size (b := b) (j := 0) (j2 := j) (by omega) (by omega)
  have s1 := ext_size (b := b) (j := j) (j2 := j2) (by omega) (by omega)
  have s2 := ext_size (b := b) (j := 0) (j2 := j2) (by omega) (by omega)
  have z0 : (splB B k (b.extract 0 j)).size = B.size := splB_size (by omega)
  have z1 : (splB (splB B k (b.extract 0 j)) (k + j) (b.extract j j2)).size = B.size := (splB_size (by omega)).trans z0
  have z2 : (splB B k (b.extract 0 j2)).size = B.size := splB_size (by omega)
  refine bs_ext (z1.trans z2.symm) fun i hi => ?_
  rw [z1] at hi
  rw [splB_bs (B := splB B k (b.extract 0 j)) (by omega) (by omega), splB_bs (B := B) (b := b.extract 0 j) (by omega) hi, splB_bs (B := B) (b := b.extract 0 j2) (by omega) hi, s0, s1, s2]
  rw [show k + j + (j2 - j) = k + j2 by omega, Nat.sub_zero, Nat.sub_zero]
  by_cases c1 : i < k
  · have c2 : i < k + j := by omega
    simp only [c1, c2, if_true]
  · by_cases c2 : i < k + j
    · have c3 : i < k + j2 := by omega
      simp only [c1, c2, c3, if_true, if_false]
      rw [bs_extract _ _ _ _ (by omega), bs_extract _ _ _ _ (by omega)]
    · by_cases c3 : i < k + j2
      · simp only [c1, c2, c3, if_true, if_false]
        rw [bs_extract _ _ _ _ (by omega), bs_extract _ _ _ _ (by omega), show j + (i - (k + j)) = 0 + (i - k) by omega]
      · simp only [c1, c2, c3, if_false]
/-- A part laid into a line, and the line into all. -/
theorem splB_line (hL : 64 * L + 64 ≤ B.size) (hk : L = k / 64) (hp : k % 64 + p.size ≤ 64) : splB B (64 * L) ((B.extract (64 * L) (64 * L + 64)).extract 0 (k % 64) ++ p ++ (B.extract (64 * L) (64 * L + 64)).extract (k % 64 + p.size) 64) = splB B k p := by
  have hd := Nat.div_add_mod k 64
  have s0 : (B.extract (64 * L) (64 * L + 64)).size = 64 := by rw [ByteArray.size_extract]; omega
  have s1 := ext_size (b := B.extract (64 * L) (64 * L + 64)) (j := 0) (j2 := k % 64) (by omega) (by omega)
  have s2 := ext_size (b := B.extract (64 * L) (64 * L + 64)) (j := k % 64 + p.size) (j2 := 64) (by omega) (by omega)
  have s3 : ((B.extract (64 * L) (64 * L + 64)).extract 0 (k % 64) ++ p ++ (B.extract (64 * L) (64 * L + 64)).extract (k % 64 + p.size) 64).size = 64 := by
    rw [ByteArray.size_append, ByteArray.size_append, s1, s2]; omega
  refine bs_ext (by rw [splB_size (by omega), splB_size (by omega)]) fun i hi => ?_
  rw [splB_size (by omega)] at hi
  rw [splB_bs (by omega) hi, splB_bs (by omega) hi, s3]
  by_cases c1 : i < 64 * L
  · rw [if_pos c1, if_pos (by omega)]
  · rw [if_neg c1]
    by_cases c2 : i < 64 * L + 64
    · rw [if_pos c2, bs_append, bs_append, ByteArray.size_append, s1]
      by_cases c3 : i < k
      · rw [if_pos (by omega), if_pos (by omega), if_pos c3, bs_extract _ _ _ _ (by omega), bs_extract _ _ _ _ (by omega)]
        congr 1
        omega
      · rw [if_neg c3]
        by_cases c4 : i < k + p.size
        · rw [if_pos (by omega), if_neg (by omega), if_pos c4]
          congr 1
          omega
        · rw [if_neg (by omega), if_neg c4, bs_extract _ _ _ _ (by omega), bs_extract _ _ _ _ (by omega)]
          congr 1
          omega
    · rw [if_neg c2, if_neg (by omega), if_neg (by omega)]
/-- The line that was laid, and the others. -/
theorem splB_own (hl : l.size = 64) (hL : 64 * L + 64 ≤ B.size) : (splB B (64 * L) l).extract (64 * L) (64 * L + 64) = l := by
  have z : (splB B (64 * L) l).size = B.size := splB_size (by omega)
  refine bs_ext (by rw [ByteArray.size_extract]; omega) fun i hi => ?_
  rw [ByteArray.size_extract] at hi
  rw [bs_extract _ _ _ _ (by omega), splB_bs (by omega) (by omega), if_neg (by omega), if_pos (by omega)]
  congr 1
  omega
theorem splB_far {L2 : Nat} (hl : l.size = 64) (hL : 64 * L + 64 ≤ B.size) (hne : L2 ≠ L) (h2 : 64 * L2 + 64 ≤ B.size) : (splB B (64 * L) l).extract (64 * L2) (64 * L2 + 64) = B.extract (64 * L2) (64 * L2 + 64) := by
  have z : (splB B (64 * L) l).size = B.size := splB_size (by omega)
  refine bs_ext (by rw [ByteArray.size_extract, ByteArray.size_extract]; omega) fun i hi => ?_
  rw [ByteArray.size_extract] at hi
  rw [bs_extract _ _ _ _ (by omega), bs_extract _ _ _ _ (by omega), splB_bs (by omega) (by omega)]
  by_cases c : 64 * L2 + i < 64 * L
  · rw [if_pos c]
  · rw [if_neg c, if_neg (by omega)]
theorem ext_ext (x y u v : Nat) (h1 : u ≤ v) (h2 : x + v ≤ y) (h3 : y ≤ B.size) : (B.extract x y).extract u v = B.extract (x + u) (x + v) := by
  refine bs_ext (by rw [ByteArray.size_extract, ByteArray.size_extract, ByteArray.size_extract]; omega) fun i hi => ?_
  rw [ByteArray.size_extract, ByteArray.size_extract] at hi
  rw [bs_extract _ _ _ _ (by omega), bs_extract _ _ _ _ (by omega), bs_extract _ _ _ _ (by omega)]
  congr 1
  omega
theorem ext_join (x y z : Nat) (h1 : x ≤ y) (h2 : y ≤ z) (h3 : z ≤ B.size) : B.extract x y ++ B.extract y z = B.extract x z := by
  have s1 := ext_size (b := B) (j := x) (j2 := y) (by omega) (by omega)
  have s2 := ext_size (b := B) (j := y) (j2 := z) (by omega) (by omega)
  have s3 := ext_size (b := B) (j := x) (j2 := z) (by omega) (by omega)
  refine bs_ext (by rw [ByteArray.size_append]; omega) fun i hi => ?_
  rw [ByteArray.size_append] at hi
  rw [bs_append, s1]
  by_cases c : i < y - x
  · rw [if_pos c, bs_extract _ _ _ _ (by omega), bs_extract _ _ _ _ (by omega)]
  · rw [if_neg c, bs_extract _ _ _ _ (by omega), bs_extract _ _ _ _ (by omega)]
    congr 1
    omega
theorem ext_all : B.extract 0 B.size = B := by
  refine bs_ext (by rw [ByteArray.size_extract]; omega) fun i hi => ?_
  rw [ByteArray.size_extract] at hi
  rw [bs_extract _ _ _ _ (by omega), Nat.zero_add]
theorem ext_nil (x : Nat) : B.extract x x = ⟨#[]⟩ := by
  refine bs_ext (by rw [ByteArray.size_extract]; show min x B.size - x = 0; omega) fun i hi => ?_
  rw [ByteArray.size_extract] at hi
  omega
end
end Go.Proofs.YtifekejcbhllpaaGreat

/-
  Layer 11: strings.Builder.
-/
namespace Go.Proofs.YtifekejcbhllpaaGreat
open Go.RowKit Go.Shelf

def EzA.ren : Go.Shelf.Ren := ⟨fun | 166 => 32 | 169 => 34 | 240 => 60 | 276 => 93 | n => n, fun | 0 => 0 | 3 => 3 | 4 => 4 | 5 => 5 | 9 => 9 | 20 => 20 | 37 => 74 | 70 => 73 | 72 => 76 | 75 => 78 | 127 => 127 | 164 => 165 | 80 => 81 | n => n, fun | n => n⟩
theorem EzA.w : Go.Proofs.Lays.n166 Tryz.prog EzA.ren where
  mixed := by kernel_rfl
  f166 := Tryz.func32.trans (congrArg some (by kernel_rfl))
  f240 := Tryz.func60.trans (congrArg some (by kernel_rfl))
  f276 := Tryz.func93.trans (congrArg some (by kernel_rfl))
  t0 := Tryz.underlying0
  a0 := Tryz.isAgg0
  z0 := Tryz.sizeOf0
  v0 := Tryz.zeroValue0
  t3 := Tryz.underlying3
  a3 := Tryz.isAgg3
  z3 := Tryz.sizeOf3
  v3 := Tryz.zeroValue3
  t4 := Tryz.underlying4
  a4 := Tryz.isAgg4
  z4 := Tryz.sizeOf4
  v4 := Tryz.zeroValue4
  t9 := Tryz.underlying9
  a9 := Tryz.isAgg9
  z9 := Tryz.sizeOf9
  v9 := Tryz.zeroValue9
  t20 := Tryz.underlying20
  a20 := Tryz.isAgg20
  z20 := Tryz.sizeOf20
  v20 := Tryz.zeroValue20
  t37 := Tryz.underlying74
  a37 := Tryz.isAgg74
  z37 := Tryz.sizeOf74
  v37 := Tryz.zeroValue74
  t70 := Tryz.underlying73
  a70 := Tryz.isAgg73
  z70 := Tryz.sizeOf73
  v70 := Tryz.zeroValue73
  t72 := Tryz.underlying76
  a72 := Tryz.isAgg76
  z72 := Tryz.sizeOf76
  v72 := Tryz.zeroValue76
  t75 := Tryz.underlying78
  a75 := Tryz.isAgg78
  z75 := Tryz.sizeOf78
  v75 := Tryz.zeroValue78
  t164 := Tryz.underlying165
  a164 := Tryz.isAgg165
  z164 := Tryz.sizeOf165
  v164 := Tryz.zeroValue165
theorem EzA.s : Go.Proofs.Lays.n169 Tryz.prog EzA.ren where
  mixed := by kernel_rfl
  f169 := Tryz.func34.trans (congrArg some (by kernel_rfl))
  t0 := Tryz.underlying0
  a0 := Tryz.isAgg0
  z0 := Tryz.sizeOf0
  v0 := Tryz.zeroValue0
  t3 := Tryz.underlying3
  a3 := Tryz.isAgg3
  z3 := Tryz.sizeOf3
  v3 := Tryz.zeroValue3
  t9 := Tryz.underlying9
  a9 := Tryz.isAgg9
  z9 := Tryz.sizeOf9
  v9 := Tryz.zeroValue9
  t37 := Tryz.underlying74
  a37 := Tryz.isAgg74
  z37 := Tryz.sizeOf74
  v37 := Tryz.zeroValue74
  t70 := Tryz.underlying73
  a70 := Tryz.isAgg73
  z70 := Tryz.sizeOf73
  v70 := Tryz.zeroValue73
  t72 := Tryz.underlying76
  a72 := Tryz.isAgg76
  z72 := Tryz.sizeOf76
  v72 := Tryz.zeroValue76
  t127 := Tryz.underlying127
  a127 := Tryz.isAgg127
  z127 := Tryz.sizeOf127
  v127 := Tryz.zeroValue127

theorem EzA.extra : Builder.Extra Tryz.prog EzA.ren where
  sizeBuilder := by kernel_rfl
  liesBuilder := by kernel_rfl
  t5 := Tryz.underlying5
  a5 := Tryz.isAgg5
  z5 := Tryz.sizeOf5
  v5 := Tryz.zeroValue5
  infoByte := by kernel_rfl
  cellsByte := by kernel_rfl
  sizeByte := by kernel_rfl
  neB5 := by decide
theorem EzA.fW : EzA.ren.f 166 = 32 := by kernel_rfl
theorem EzA.fS : EzA.ren.f 169 = 34 := by kernel_rfl
/-- A builder at block b that holds bytes, in memory from B on. -/
def IsB (B b : Nat) (l : List UInt8) (w : World) : Prop := Lib.IsBuilderF 76 5 B b (Lib.byteCells l) w
theorem bat_gr0 {T e : TypeId} {B b : Nat} {p : Value} {bs : List Value} {w w' : World} (h : Lib.BuilderAtF T e B b p bs w) (g : Gr [] w w') : Lib.BuilderAtF T e B b p bs w' := by
  have hlt := h.lt
  obtain ⟨hB, v, hb, hown, hne⟩ := h
  exact ⟨hB, v, (g.block b hlt (by simp)).trans hb, hown.kept (row := none) ⟨g.os, g.tape, g.output, g.size, fun k hk _ => g.block k hk (by simp)⟩ (by cases hv : v.ownBlock <;> simp), hne⟩
theorem IsB.gr0 {B b : Nat} {l : List UInt8} {w w' : World} (h : IsB B b l w) (g : Gr [] w w') : IsB B b l w' :=
  h.elim (fun x => .inl (bat_gr0 x g)) (fun x => .inr (bat_gr0 x g))
theorem IsB.new (w : World) : IsB w.heap.size w.heap.size [] (w.alloc (.cells #[.pointer none, .slice none 0 0] 76)) := Lib.IsBuilderF.of (Lib.fresh_isBuilder _ _ w)
theorem Gr.thenB {a b c : World} (h : Gr [] a b) (k : Below a.heap.size b c) : Gr [] a c :=
  ⟨k.os.trans h.os, k.tape.trans h.tape, k.output.trans h.output, Nat.le_trans h.size k.size, fun i hi hn => (k.block i hi).trans (h.block i hi hn)⟩
theorem IsB.lt {B b : Nat} {l : List UInt8} {w : World} (h : IsB B b l w) : b < w.heap.size := h.elim (fun x => x.lt) (fun x => x.lt)
theorem write_any (B b : Nat) (l m : List UInt8) (s : ByteArray) (w : World) (h : IsB B b l w) (hm : s.data.toList = m) (hl : l.length + m.length ≤ 140737488355328) (hB : B ≤ w.heap.size) :
    Calls Tryz.prog 32 #[.pointer (some ⟨b, 0, none⟩), .string s] w fun e w' => (∃ v, e = .returned v) ∧ IsB B b (l ++ m) w' ∧ Below B w w' ∧ Lib.OthersKept 5 (some b) w w' := by
  subst hm
  have q := Any.Builder_WriteString_k EzA.w EzA.extra B b (Lib.byteCells l) s w h (by rw [Lib.byteCells_length, Lib.size_eq]; exact hl) hB
  rw [EzA.fW] at q
  refine q.mono ?_
  rintro e w' ⟨rfl, h1, h2, h3⟩
  refine ⟨⟨_, rfl⟩, ?_, h2, h3⟩
  have hh : Lib.byteCells (l ++ s.data.toList) = Lib.byteCells l ++ Lib.strCells s := by simp [Lib.byteCells, Lib.strCells]
  unfold IsB
  rw [hh]
  exact .inr h1
theorem string_any (B b : Nat) (l : List UInt8) (S : ByteArray) (w : World) (h : IsB B b l w) (hS : S.data.toList = l) (hB : B ≤ w.heap.size) :
    Calls Tryz.prog 34 #[.pointer (some ⟨b, 0, none⟩)] w fun e w' => e = .returned (.string S) ∧ Below B w w' := by
  obtain rfl : S = ⟨l.toArray⟩ := by
    subst hS
    rfl
  have q := Any.Builder_String_any_k EzA.s EzA.extra B b l w h hB
  rw [EzA.fS] at q
  exact q.mono fun e w' ⟨he, _, h2, _⟩ => ⟨he, h2⟩
end Go.Proofs.YtifekejcbhllpaaGreat

/-
  A region that draws its order: operations that read, and calls that may make memory within a class of worlds, in whatever order; behind them a tail in forced order.
-/
namespace Go.Proofs.YtifekejcbhllpaaGreat
open Go.RowKit

section
variable {P : Program} {ops : Array Oper} {md : Region.Mode} {C : World → Prop}
def wpHeadQ (P : Program) (md : Region.Mode) (ops : Array Oper) (C : World → Prop) (n : Nat) (L : Array Bool → Act → Prop) : Nat → Array Bool → Act → Prop
  | 0, listed, a => L listed a
  | f + 1, listed, a =>
    Region.ready md ops listed ≠ [] ∧ ∀ i ∈ Region.ready md ops listed, i < n ∧ qOp P ops C i (wpHeadQ P md ops C n L f (listed.setIfInBounds i true)) a
theorem wpAny_of_headQ {n g : Nat} {L : Array Bool → Act → Prop} {Q' : Exit → Act → World → Prop} (hL : ∀ listed a w, C w → L listed a → wpAny P md ops Q' g listed a w) :
    ∀ (f : Nat) (listed : Array Bool) (a : Act) (w : World), C w → wpHeadQ P md ops C n L f listed a → wpAny P md ops Q' (f + g) listed a w
  | 0, listed, a, w, hw, h => by rw [Nat.zero_add]; exact hL _ _ _ hw h
  | f + 1, listed, a, w, hw, h => by
    rw [show f + 1 + g = (f + g) + 1 by omega]
    exact ⟨fun h0 => absurd h0 h.1, fun i hi => wpOp_of_qOp hw (fun a' w' hw' h' => wpAny_of_headQ hL f _ a' w' hw' h') (h.2 i hi).2⟩
theorem wpHeadQ_first {n i : Nat} {oi : Oper} {v : Value} {L : Array Bool → Act → Prop} (hi : ops[i]? = some oi) (hsel : ∀ (j : Nat) (o : Oper) cs b, ops[j]? = some o → o.op ≠ .select cs b)
    (hs : Region.sinkB md ops n = true) (hc : Region.chainB md ops n = true) (hn : n < ops.size) (hin : i < n)
    (hdone : ∀ listed a, L listed a → ∀ j ∈ Region.ready md ops listed, n ≤ j) :
    ∀ (f : Nat) (listed : Array Bool) (a : Act), HeadInv md ops n listed →
      (∀ j oj, ops[j]? = some oj → j ≠ i → listed.getD j true = false → (∀ e ∈ oj.after, Region.binds md e = true → e.on ≠ i) → oi.apart ops oj = true) →
      i ∈ Region.ready md ops listed → YieldsIn P ops C oi v a →
      wpHeadQ P md ops C n L f (listed.setIfInBounds i true) (a.put oi.dst v) → wpHeadQ P md ops C n L (f + 1) listed a := by
  intro f
  induction f with
  | zero =>
    intro listed a inv _ hr hy H
    have hun := (mem_ready.1 hr).1
    refine ⟨fun h => (by rw [h] at hr; cases hr), fun j hj => ?_⟩
    have hjn : j < n := by
      rcases Nat.lt_or_ge j n with h | h
      · exact h
      · exact absurd hj (tail_waits hs hc hn inv _ i rfl hin hun j h)
    refine ⟨hjn, ?_⟩
    by_cases hji : j = i
    · subst hji; exact hy.qOp hi H
    · have := hdone _ _ H j (ready_mono hj hji)
      omega
  | succ f ih =>
    intro listed a inv hfree hr hy H
    have hun := (mem_ready.1 hr).1
    refine ⟨fun h => (by rw [h] at hr; cases hr), fun j hj => ?_⟩
    have hjn : j < n := by
      rcases Nat.lt_or_ge j n with h | h
      · exact h
      · exact absurd hj (tail_waits hs hc hn inv _ i rfl hin hun j h)
    refine ⟨hjn, ?_⟩
    by_cases hji : j = i
    · subst hji; exact hy.qOp hi H
    · have h1 := (H.2 j (ready_mono hj hji)).2
      obtain ⟨hjun, oj, hoj, hall⟩ := mem_ready.1 hj
      have hnot : ∀ e ∈ oj.after, Region.binds md e = true → e.on ≠ i := fun e he hb heq => by
        have h1 := hall e he hb
        rw [heq, getD_both hun] at h1
        cases h1
      have h2 := qOp_put hoj (hfree j oj hoj hji hjun hnot) (fun cs b => hsel i oi cs b hi) (fun cs b => hsel j oj cs b hoj) hy h1
      have hfree' : ∀ k ok, ops[k]? = some ok → k ≠ i → (listed.setIfInBounds j true).getD k true = false →
          (∀ e ∈ ok.after, Region.binds md e = true → e.on ≠ i) → oi.apart ops ok = true := fun k ok hk hki hun hno => by
        refine hfree k ok hk hki ?_ hno
        by_cases hjk : j = k
        · subst hjk; exact hjun
        · rw [getD_set_ne true hjk] at hun; exact hun
      refine qOp_mono (fun a' h3 => ih (listed.setIfInBounds j true) a' (inv.set hj hjn) hfree' (ready_mono hr (Ne.symm hji)) h3.1 ?_) h2
      rw [Array.setIfInBounds_comm _ _ hji]
      exact h3.2
theorem wpHeadQ_lex {n g : Nat} {Lq : Act → Prop} (hsel : Region.noSelect ops = true) (hs : Region.sinkB md ops n = true) (hc : Region.chainB md ops n = true) (hn : n < ops.size) :
    ∀ (l : List Oper) (k : Nat) (listed : Array Bool) (a : Act), (∀ j, j < l.length → l[j]? = ops[k + j]?) → k + l.length = n → HeadInv md ops n listed →
    Region.lexHead md ops g l.length k listed = true → wpQuiet P ops C Lq l a →
    wpHeadQ P md ops C n (fun listed' a' => Region.seqB md ops g n listed' = true ∧ Lq a') l.length listed a
  | [], k, listed, a, _, hk, _, hB, h => by
    have : k = n := by simpa using hk
    subst this
    exact ⟨by simpa [Region.lexHead] using hB, h⟩
  | o :: l, k, listed, a, hl, hk, inv, hB, h => by
    have h0 : ops[k]? = some o := by simpa using (hl 0 (by simp)).symm
    simp only [List.length_cons, Region.lexHead, Bool.and_eq_true] at hB
    obtain ⟨⟨hr, hf⟩, hB'⟩ := hB
    have hkn : k < n := by simp only [List.length_cons] at hk; omega
    have hr' : k ∈ Region.ready md ops listed := by simpa using hr
    have hst : qOp P ops C k (wpQuiet P ops C Lq l) a := by unfold qOp; simp only [h0]; exact h
    obtain ⟨v, hy, hK⟩ := yieldsIn_of_qOp h0 hst
    exact wpHeadQ_first h0 (Region.noSelect_spec hsel) hs hc hn hkn (fun listed' a' hL => seqB_ready hL.1) l.length listed a inv (Region.free_spec h0 hf) hr' hy
      (wpHeadQ_lex hsel hs hc hn l (k + 1) _ _ (fun j hj => by have := hl (j + 1) (by simp; omega); simpa [Nat.add_assoc, Nat.add_comm 1 j] using this) (by simp only [List.length_cons] at hk; omega) (inv.set hr' hkn) hB' hK)
theorem wp_region_quiet_tail {id : Nat} {Q : Exit → Act → World → Prop} {a : Act} {w : World} {l : List Oper} (n : Nat) (hm : P.follows .mixedOrders = true) (hB : Region.lexTailB .any l.toArray n = true) (hC : C w.drew)
    (h : wpQuiet P l.toArray C (fun a' => ∀ w', C w' → wpList P l.toArray Q (l.drop n) a' w') (l.take n) a) : (Code.region id l.toArray true).wp P Q a w := by
  simp only [Region.lexTailB, Bool.and_eq_true, decide_eq_true_eq] at hB
  obtain ⟨⟨⟨⟨hsel, hn⟩, hs⟩, hc⟩, hlex⟩ := hB
  have hn' : n < l.length := by simpa using hn
  have htl : (l.take n).length = n := by simp; omega
  have hdl : (l.drop n).length = l.toArray.size - n := by simp
  have inv0 : HeadInv .any l.toArray n (Array.replicate l.toArray.size false) :=
    ⟨by simp, fun j oj _ hl => (by rw [getD_replicate_false] at hl; cases hl), fun t _ ht => getD_in (by simpa using ht) (getD_replicate_false _ _)⟩
  have H := wpHeadQ_lex (md := .any) (g := l.toArray.size - n) hsel hs hc hn (l.take n) 0 _ a (fun j hj => by
    have hj' : j < n := by rw [htl] at hj; exact hj
    simp [hj']) (by simpa using htl) inv0 (by rw [htl]; exact hlex) h
  refine wp_region_any hm ?_
  have := wpAny_of_headQ (Q' := Q) (g := l.toArray.size - n) (fun listed a' w' hw' hL => by
    have := wpAny_of_seq (md := .any) (Q' := Q) (l.drop n) n listed a' w' (fun j => by simp [List.getElem?_drop]) (by rw [hdl]; exact hL.1) (hL.2 w' hw')
    rwa [hdl] at this) _ _ _ _ (show C { w with drawn := w.drawn + 1 } from hC) H
  rw [htl, show n + (l.toArray.size - n) = l.toArray.size by omega] at this
  exact this
end

/-- The class of the worlds that have all that w0 has. -/
def Kp (w0 : World) (W : World) : Prop := Below w0.heap.size w0 W
theorem Kp.refl (w : World) : Kp w w := Below.refl _ w
theorem Kp.next {w0 w w' : World} (h : Kp w0 w) (hb : Below w.heap.size w w') : Kp w0 w' := below_next h hb
theorem Kp.drew (w : World) : Kp w w.drew := (Below.refl _ w).drew
theorem kp_ne (w0 : World) : Nonempty (Cls (Kp w0)) := ⟨⟨w0, Kp.refl w0⟩⟩
/-- A fact on a cell, at each world of the class. -/
theorem kp_cell {w0 : World} {a : Addr} {v : Value} (h : w0.cell? a = some v) (x : Cls (Kp w0)) : x.w.cell? a = some v := (Below.cell x.h (World.block_lt_of_cell? w0 a h)).trans h
theorem kp_call {P : Program} {f : FuncId} {args : Array Value} {w0 : World} {v : Value} (x : Cls (Kp w0)) (h : Calls P f args x.w fun e w' => e = .returned v ∧ Below x.w.heap.size x.w w') :
    Calls P f args x.w fun e w' => e = .returned v ∧ ∃ y : Cls (Kp w0), w' = y.w := cls_call x h fun _ hb => x.h.next hb
theorem wp_region_kp {P : Program} {id : Nat} {Q : Exit → Act → World → Prop} {a : Act} {w : World} {l : List Oper} (hm : P.follows .mixedOrders = true) (hB : Region.lexB .any l.toArray = true)
    (h : wpQuiet P l.toArray (fun w' => ∃ x : Cls (Kp w), w' = x.w) (fun a' => ∀ w', (∃ x : Cls (Kp w), w' = x.w) → Q .normal a' w') l a) : (Code.region id l.toArray true).wp P Q a w :=
  wp_region_cls (Kp w) hm hB (Kp.drew w) h
theorem wp_region_kp_tail {P : Program} {id : Nat} {Q : Exit → Act → World → Prop} {a : Act} {w : World} {l : List Oper} (n : Nat) (hm : P.follows .mixedOrders = true) (hB : Region.lexTailB .any l.toArray n = true)
    (h : wpQuiet P l.toArray (fun w' => ∃ x : Cls (Kp w), w' = x.w) (fun a' => ∀ w', (∃ x : Cls (Kp w), w' = x.w) → wpList P l.toArray Q (l.drop n) a' w') (l.take n) a) : (Code.region id l.toArray true).wp P Q a w :=
  wp_region_quiet_tail (C := fun w' => ∃ x : Cls (Kp w), w' = x.w) n hm hB ⟨⟨w.drew, Kp.drew w⟩, rfl⟩ h

end Go.Proofs.YtifekejcbhllpaaGreat

/-
  Layer 5: plans.
-/
namespace Go.Proofs.YtifekejcbhllpaaGreat
open Go.RowKit

structure PlanZ where
  a : Int
  l : Int
  s : Int
def okZ (p : PlanZ) : Bool := decide (0 ≤ p.a ∧ p.a ≤ 8192 ∧ 1 ≤ p.l ∧ p.l ≤ 1026 ∧ 0 ≤ p.s ∧ p.s ≤ 64)
def tabZ (p : PlanZ) : Int := (p.s + 7) / 8
def sizeZ (p : PlanZ) : Int := if okZ p then tabZ p + p.l + p.s else 0
def checkZ (p : PlanZ) (n : Int) : Int := if okZ p then (if n < p.a + sizeZ p then 3 else 0) else 2
def planV (p : PlanZ) : Value := .agg #[.int .i64 p.a, .int .i64 p.l, .int .i64 p.s]
theorem okZ_iff (p : PlanZ) : okZ p = true ↔ 0 ≤ p.a ∧ p.a ≤ 8192 ∧ 1 ≤ p.l ∧ p.l ≤ 1026 ∧ 0 ≤ p.s ∧ p.s ≤ 64 := by unfold okZ; rw [decide_eq_true_eq]
theorem okZ_no (p : PlanZ) (h : ¬ (0 ≤ p.a ∧ p.a ≤ 8192 ∧ 1 ≤ p.l ∧ p.l ≤ 1026 ∧ 0 ≤ p.s ∧ p.s ≤ 64)) : okZ p = false := by unfold okZ; exact decide_eq_false h
set_option maxHeartbeats 2000000 in
theorem right_any (p : PlanZ) (w : World) : Calls Tryz.prog 80 #[planV p] w fun e w' => e = .returned (.bool (okZ p)) ∧ Below w.heap.size w w' := by
  obtain ⟨a, l, s⟩ := p
  unfold planV
  simp only
  have HB := Lib.hid ((Below.refl w.heap.size w).alloc (Nat.le_refl _) (Obj.cells #[.int .i64 a, .int .i64 l, .int .i64 s] 117))
  by_cases h : 0 ≤ a ∧ a ≤ 8192 ∧ 1 ≤ l ∧ l ≤ 1026 ∧ 0 ≤ s ∧ s ≤ 64
  · rw [(okZ_iff ⟨a, l, s⟩).2 h]
    obtain ⟨h1, h2, h3, h4, h5, h6⟩ := h
    go_enter Tryz.func80, Tryz.ntmps80
    go_wp2
    go_ret
    exact ⟨rfl, HB.out⟩
  · rw [okZ_no ⟨a, l, s⟩ h]
    by_cases h1 : 0 ≤ a
    · by_cases h2 : a ≤ 8192
      · by_cases h3 : 1 ≤ l
        · by_cases h4 : l ≤ 1026
          · by_cases h5 : 0 ≤ s
            · have h6 : ¬ s ≤ 64 := fun q => h ⟨h1, h2, h3, h4, h5, q⟩
              clear h
              go_enter Tryz.func80, Tryz.ntmps80
              go_wp2
              go_ret
              exact ⟨rfl, HB.out⟩
            · clear h
              go_enter Tryz.func80, Tryz.ntmps80
              go_wp2
              go_ret
              exact ⟨rfl, HB.out⟩
          · clear h
            go_enter Tryz.func80, Tryz.ntmps80
            go_wp2
            go_ret
            exact ⟨rfl, HB.out⟩
        · clear h
          go_enter Tryz.func80, Tryz.ntmps80
          go_wp2
          go_ret
          exact ⟨rfl, HB.out⟩
      · clear h
        go_enter Tryz.func80, Tryz.ntmps80
        go_wp2
        go_ret
        exact ⟨rfl, HB.out⟩
    · clear h
      go_enter Tryz.func80, Tryz.ntmps80
      go_wp2
      go_ret
      exact ⟨rfl, HB.out⟩
theorem table_any (p : PlanZ) (hp : okZ p = true) (w : World) : Calls Tryz.prog 81 #[planV p] w fun e w' => e = .returned (.int .i64 (tabZ p)) ∧ Below w.heap.size w w' := by
  obtain ⟨a, l, s⟩ := p
  obtain ⟨h1, h2, h3, h4, h5, h6⟩ := (okZ_iff _).1 hp
  simp only at h1 h2 h3 h4 h5 h6
  unfold planV tabZ
  simp only
  have HB := Lib.hid ((Below.refl w.heap.size w).alloc (Nat.le_refl _) (Obj.cells #[.int .i64 a, .int .i64 l, .int .i64 s] 117))
  clear hp
  go_enter Tryz.func81, Tryz.ntmps81
  go_wp2
  go_ret
  exact ⟨by simp [show s + 8 - 1 = s + 7 by omega], HB.out⟩
end Go.Proofs.YtifekejcbhllpaaGreat
