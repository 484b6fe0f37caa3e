/-
  Layer 15: the program's Text.
-/
import Derived.Test.YtpkhfdcokcchdabEzP
import Derived.Test.YtpkhfdcokcchdabExA
import Derived.Test.YtpkhfdcokcchdabLe
import Derived.Test.YtpkhfdcokcchdabGr
import Derived.Test.YtpkhfdcokcchdabBase
import Derived.Shelf.Strings.BuilderK
namespace Go.Proofs.Ytpkhfdcokcchdab
open Go.RowKit Go.Shelf

def EzA.ren : Go.Shelf.Ren := ⟨fun | 166 => 54 | 169 => 55 | 240 => 64 | 276 => 72 | n => n, fun | 0 => 0 | 3 => 3 | 4 => 4 | 5 => 5 | 9 => 9 | 20 => 20 | 37 => 70 | 70 => 93 | 72 => 95 | 75 => 97 | 127 => 105 | 164 => 108 | 80 => 59 | n => n, fun | n => n⟩
theorem EzA.w : Go.Proofs.Lays.n166 Try.prog EzA.ren where
  mixed := by kernel_rfl
  f166 := Try.func54.trans (congrArg some (by kernel_rfl))
  f240 := Try.func64.trans (congrArg some (by kernel_rfl))
  f276 := Try.func72.trans (congrArg some (by kernel_rfl))
  t0 := Try.underlying0
  a0 := Try.isAgg0
  z0 := Try.sizeOf0
  v0 := Try.zeroValue0
  t3 := Try.underlying3
  a3 := Try.isAgg3
  z3 := Try.sizeOf3
  v3 := Try.zeroValue3
  t4 := Try.underlying4
  a4 := Try.isAgg4
  z4 := Try.sizeOf4
  v4 := Try.zeroValue4
  t9 := Try.underlying9
  a9 := Try.isAgg9
  z9 := Try.sizeOf9
  v9 := Try.zeroValue9
  t20 := Try.underlying20
  a20 := Try.isAgg20
  z20 := Try.sizeOf20
  v20 := Try.zeroValue20
  t37 := Try.underlying70
  a37 := Try.isAgg70
  z37 := Try.sizeOf70
  v37 := Try.zeroValue70
  t70 := Try.underlying93
  a70 := Try.isAgg93
  z70 := Try.sizeOf93
  v70 := Try.zeroValue93
  t72 := Try.underlying95
  a72 := Try.isAgg95
  z72 := Try.sizeOf95
  v72 := Try.zeroValue95
  t75 := Try.underlying97
  a75 := Try.isAgg97
  z75 := Try.sizeOf97
  v75 := Try.zeroValue97
  t164 := Try.underlying108
  a164 := Try.isAgg108
  z164 := Try.sizeOf108
  v164 := Try.zeroValue108
theorem EzA.s : Go.Proofs.Lays.n169 Try.prog EzA.ren where
  mixed := by kernel_rfl
  f169 := Try.func55.trans (congrArg some (by kernel_rfl))
  t0 := Try.underlying0
  a0 := Try.isAgg0
  z0 := Try.sizeOf0
  v0 := Try.zeroValue0
  t3 := Try.underlying3
  a3 := Try.isAgg3
  z3 := Try.sizeOf3
  v3 := Try.zeroValue3
  t9 := Try.underlying9
  a9 := Try.isAgg9
  z9 := Try.sizeOf9
  v9 := Try.zeroValue9
  t37 := Try.underlying70
  a37 := Try.isAgg70
  z37 := Try.sizeOf70
  v37 := Try.zeroValue70
  t70 := Try.underlying93
  a70 := Try.isAgg93
  z70 := Try.sizeOf93
  v70 := Try.zeroValue93
  t72 := Try.underlying95
  a72 := Try.isAgg95
  z72 := Try.sizeOf95
  v72 := Try.zeroValue95
  t127 := Try.underlying105
  a127 := Try.isAgg105
  z127 := Try.sizeOf105
  v127 := Try.zeroValue105

theorem EzA.extra : Builder.Extra Try.prog EzA.ren where
  sizeBuilder := by kernel_rfl
  liesBuilder := by kernel_rfl
  t5 := Try.underlying5
  a5 := Try.isAgg5
  z5 := Try.sizeOf5
  v5 := Try.zeroValue5
  infoByte := by kernel_rfl
  cellsByte := by kernel_rfl
  sizeByte := by kernel_rfl
  neB5 := by decide
theorem EzA.fW : EzA.ren.f 166 = 54 := by kernel_rfl
theorem EzA.fS : EzA.ren.f 169 = 55 := by kernel_rfl
/-- A builder at block b that holds bytes, in memory from B on. -/
def IsB (B b : Nat) (l : List UInt8) (w : World) : Prop := Lib.IsBuilderF 95 5 B b (Lib.byteCells l) w
theorem bat_gr0 {T e : TypeId} {B b : Nat} {p : Value} {bs : List Value} {w w' : World} (h : Lib.BuilderAtF T e B b p bs w) (g : Gr [] w w') : Lib.BuilderAtF T e B b p bs w' := by
  have hlt := h.lt
  obtain ⟨hB, v, hb, hown, hne⟩ := h
  exact ⟨hB, v, (g.block b hlt (by simp)).trans hb, hown.kept (row := none) ⟨g.os, g.tape, g.output, g.size, fun k hk _ => g.block k hk (by simp)⟩ (by cases hv : v.ownBlock <;> simp), hne⟩
theorem IsB.gr0 {B b : Nat} {l : List UInt8} {w w' : World} (h : IsB B b l w) (g : Gr [] w w') : IsB B b l w' :=
  h.elim (fun x => .inl (bat_gr0 x g)) (fun x => .inr (bat_gr0 x g))
theorem IsB.new (w : World) : IsB w.heap.size w.heap.size [] (w.alloc (.cells #[.pointer none, .slice none 0 0] 95)) := Lib.IsBuilderF.of (Lib.fresh_isBuilder _ _ w)
theorem Gr.thenB {a b c : World} (h : Gr [] a b) (k : Below a.heap.size b c) : Gr [] a c :=
  ⟨k.os.trans h.os, k.tape.trans h.tape, k.output.trans h.output, Nat.le_trans h.size k.size, fun i hi hn => (k.block i hi).trans (h.block i hi hn)⟩
theorem IsB.lt {B b : Nat} {l : List UInt8} {w : World} (h : IsB B b l w) : b < w.heap.size := h.elim (fun x => x.lt) (fun x => x.lt)
theorem kept_holds {w w' : World} {b k : Nat} {cs : Array Value} {t : TypeId} (h : Lib.OthersKept 5 (some b) w w') (hh : Holds w k cs t) (hk : k ≠ b) (ht : t ≠ 5) : Holds w' k cs t :=
  h k _ hh (fun e => hk (Option.some.inj e)) (fun _ _ e => by injection e with _ h2 _; exact ht h2)
theorem write_any (B b : Nat) (l m : List UInt8) (s : ByteArray) (w : World) (h : IsB B b l w) (hm : s.data.toList = m) (hl : l.length + m.length ≤ 140737488355328) (hB : B ≤ w.heap.size) :
    Calls Try.prog 54 #[.pointer (some ⟨b, 0, none⟩), .string s] w fun e w' => (∃ v, e = .returned v) ∧ IsB B b (l ++ m) w' ∧ Below B w w' ∧ Lib.OthersKept 5 (some b) w w' := by
  subst hm
  have q := Any.Builder_WriteString_k EzA.w EzA.extra B b (Lib.byteCells l) s w h (by rw [Lib.byteCells_length, Lib.size_eq]; exact hl) hB
  rw [EzA.fW] at q
  refine q.mono ?_
  rintro e w' ⟨rfl, h1, h2, h3⟩
  refine ⟨⟨_, rfl⟩, ?_, h2, h3⟩
  have hh : Lib.byteCells (l ++ s.data.toList) = Lib.byteCells l ++ Lib.strCells s := by simp [Lib.byteCells, Lib.strCells]
  unfold IsB
  rw [hh]
  exact .inr h1
theorem string_any (B b : Nat) (l : List UInt8) (S : ByteArray) (w : World) (h : IsB B b l w) (hS : S.data.toList = l) (hB : B ≤ w.heap.size) :
    Calls Try.prog 55 #[.pointer (some ⟨b, 0, none⟩)] w fun e w' => e = .returned (.string S) ∧ Below B w w' := by
  obtain rfl : S = ⟨l.toArray⟩ := by
    subst hS
    rfl
  have q := Any.Builder_String_any_k EzA.s EzA.extra B b l w h hB
  rw [EzA.fS] at q
  exact q.mono fun e w' ⟨he, _, h2, _⟩ => ⟨he, h2⟩
theorem putS4 (n : Nat) (S : ByteArray) (w : World) (hn : n < 18446744073709551616) (hS : S = ⟨(putL n 4).toArray⟩) :
    Calls Try.prog 37 #[.int .u64 n, .int .i64 4] w fun e w' => e = .returned (.string S) ∧ Below w.heap.size w w' := by
  subst hS
  exact put_any n 4 w hn

set_option maxHeartbeats 1000000 in
set_option maxRecDepth 20000 in
theorem etext_yes (l : List (Int × Int)) (L : Nat) (S : ByteArray) (ao : Option Addr) (cap : Nat) (w : World) (h : Rd2 w ao l) (hL : L = l.length) (hr : Right15 l) (hS : S.data.toList = bytP l) :
    Calls Try.prog 38 #[.slice ao L cap] w fun e w' => e = .returned (.string S) ∧ Gr [] w w' := by
  have HR := Lib.hid h
  have HL := Lib.hid hL
  have HX := Lib.hid hr
  have HS := Lib.hid hS
  have hL64 : L ≤ 64 := by rw [hL]; exact hr.1
  clear h hL hS hr
  go_enter Try.func38, Try.ntmps38
  go_wp2_with fail
  with_reducible refine (eright_yes l L ao cap w HR.out HL.out HX.out).mono ?_
  rintro e w1 ⟨rfl, g1⟩
  have H1 := Lib.hid (And.intro (HR.out.gr0 g1) g1)
  have HB0 := Lib.hid (IsB.new w1)
  have HA0 := Lib.hid ((Gr.refl [] w1).alloc (Obj.cells #[.pointer none, .slice none 0 0] 95))
  clear g1 HR
  obtain ⟨b, hb⟩ : ∃ b, w1.heap.size = b := ⟨_, rfl⟩
  rw [hb] at HB0
  go_wp2_with fail
  generalize w1.alloc (Obj.cells #[.pointer none, .slice none 0 0] 95) = w2 at *
  go_loopw [11] (fun i wr => ∃ k : Nat, k ≤ L ∧ i = .int .i64 k ∧ IsB b b (bytP (l.take k)) wr ∧ Gr [] w1 wr) (fun i _ => L - (intOf i).toNat)
  case atStart => exact ⟨0, by omega, rfl, HB0.out, HA0.out⟩
  case round =>
    obtain ⟨k, hk, rfl, hB, G⟩ := hrel
    have hsz := G.size
    rw [hb] at hsz
    by_cases hkL : k < L
    · have hkL2 : (k : Int) < (L : Int) := by omega
      obtain ⟨⟨x1, x2⟩, hx⟩ : ∃ x, l[k]? = some x := ⟨_, List.getElem?_eq_getElem (by have := HL.out; omega)⟩
      obtain ⟨bk, o, hao, hbk, c1, c2⟩ := H1.out.1 k _ hx
      have y0 : wr.cell? ⟨bk, o + k * 2, none⟩ = some (.int .i64 x1) := (G.cell0 hbk).trans c1
      have y1 : wr.cell? ⟨bk, o + k * 2 + 1, none⟩ = some (.int .i64 x2) := (G.cell0 hbk).trans c2
      have hxb := HX.out.all _ (List.mem_of_getElem? hx)
      simp only at hxb
      have HST := Lib.hid (bytP_take hx)
      obtain ⟨n1, hn1⟩ : ∃ n1 : Nat, (n1 : Int) = x1 + 1 := ⟨(x1 + 1).toNat, by omega⟩
      obtain ⟨n2, hn2⟩ : ∃ n2 : Nat, (n2 : Int) = x2 := ⟨x2.toNat, by omega⟩
      have hrb : recB (x1, x2) = putL n1 4 ++ putL n2 4 := by
        unfold recB
        simp only
        rw [show (x1 + 1).toNat = n1 by omega, show x2.toNat = n2 by omega]
      rw [hrb] at HST
      have hw1 : IntKind.i64.wrap (x1 + 1) = x1 + 1 := IntWalk.i64_in _ (by omega)
      have hw2 : IntKind.u64.wrap (x1 + 1) = (n1 : Int) := by rw [hn1]; exact IntWalk.u64_in _ (by omega)
      have hw3 : IntKind.u64.wrap x2 = (n2 : Int) := by rw [hn2]; exact IntWalk.u64_in _ (by omega)
      have hn1b : n1 < 18446744073709551616 := by omega
      have hn2b : n2 < 18446744073709551616 := by omega
      have hblt := hB.lt
      have hlen : (bytP (l.take k)).length ≤ 1000 := by rw [bytP_len, List.length_take]; omega
      have z0 := (Holds.new wr #[.int .i64 x1, .int .i64 x2] 72).cell 0
      have HX1 := Lib.hid (Holds.new wr #[.int .i64 x1, .int .i64 x2] 72)
      have HB := Lib.hid (hB.gr0 ((Gr.refl [] wr).alloc (Obj.cells #[.int .i64 x1, .int .i64 x2] 72)))
      have HG := Lib.hid (G.alloc (Obj.cells #[.int .i64 x1, .int .i64 x2] 72))
      obtain ⟨S1, hS1⟩ : ∃ S : ByteArray, S = ⟨(putL n1 4).toArray⟩ := ⟨_, rfl⟩
      obtain ⟨S2, hS2⟩ : ∃ S : ByteArray, S = ⟨(putL n2 4).toArray⟩ := ⟨_, rfl⟩
      have HP1 := Lib.hid (fun W => putS4 n1 S1 W hn1b hS1)
      have HP2 := Lib.hid (fun W => putS4 n2 S2 W hn2b hS2)
      have HS1 := Lib.hid (show S1.data.toList = putL n1 4 by rw [hS1])
      have HS2 := Lib.hid (show S2.data.toList = putL n2 4 by rw [hS2])
      obtain ⟨P, hP⟩ : ∃ P, P = bytP (l.take k) := ⟨_, rfl⟩
      rw [← hP] at HB HST hlen
      subst hao
      clear c1 c2 hx hrb hB G hS1 hS2 hn1 hn2 hP hxb hn1b hn2b
      go_wp2_with fail
      with_reducible refine (HP1.out _).mono ?_
      rintro e w3 ⟨rfl, g3⟩
      have HB3 := Lib.hid (HB.out.gr0 (.ofBelow g3))
      have HG3 := Lib.hid (HG.out.nextB g3)
      have HX3 := Lib.hid (HX1.out.below g3)
      clear g3 HB HG HX1 z0
      generalize wr.heap.size = bx at *
      have hsz3 : b ≤ w3.heap.size := by have := HG3.out.size; omega
      go_wp2_with fail
      with_reducible refine (write_any b b P (putL n1 4) S1 w3 HB3.out HS1.out (by rw [putL_length]; omega) hsz3).mono ?_
      rintro e w4 ⟨⟨v4, rfl⟩, hB4, g4, k4⟩
      have g4' : Below w1.heap.size w3 w4 := by rw [hb]; exact g4
      have HB4 := Lib.hid hB4
      have HG4 := Lib.hid (HG3.out.thenB g4')
      have HX4 := Lib.hid (kept_holds k4 HX3.out (by omega) (by decide))
      have z1 := HX4.out.cell 1
      clear hB4 g4 k4 g4' HB3 HG3 HX3 hsz3
      go_wp2_with fail
      with_reducible refine (HP2.out _).mono ?_
      rintro e w5 ⟨rfl, g5⟩
      have HB5 := Lib.hid (HB4.out.gr0 (.ofBelow g5))
      have HG5 := Lib.hid (HG4.out.nextB g5)
      clear g5 HB4 HG4 HX4 z1
      have hsz5 : b ≤ w5.heap.size := by have := HG5.out.size; omega
      go_wp2_with fail
      with_reducible refine (write_any b b (P ++ putL n1 4) (putL n2 4) S2 w5 HB5.out HS2.out (by rw [List.length_append, putL_length, putL_length]; omega) hsz5).mono ?_
      rintro e w6 ⟨⟨v6, rfl⟩, hB6, g6, -⟩
      have g6' : Below w1.heap.size w5 w6 := by rw [hb]; exact g6
      have HB6 := Lib.hid (show IsB b b (bytP (l.take (k + 1))) w6 by rw [HST.out, ← List.append_assoc]; exact hB6)
      have HG6 := Lib.hid (HG5.out.thenB g6')
      clear hB6 g6 g6' HB5 HG5
      go_wp2_with fail
      go_roundw
      case rel => exact ⟨k + 1, by omega, by go_num, HB6.out, HG6.out⟩
      case measure => simp [intOf]; omega
    · obtain rfl : k = L := by omega
      have ht : l.take k = l := by rw [HL.out]; exact List.take_length
      rw [ht] at hB
      have HB := Lib.hid hB
      have HG := Lib.hid (H1.out.2.next0 G)
      have HST := Lib.hid (string_any b b (bytP l) S wr hB HS.out hsz)
      have HG1 := Lib.hid G
      clear hB G
      go_wp2_with fail
      with_reducible refine HST.out.mono ?_
      rintro e w5 ⟨rfl, g5⟩
      have g5' : Below w1.heap.size wr w5 := by rw [hb]; exact g5
      have HF := Lib.hid (H1.out.2.next0 (HG1.out.thenB g5'))
      go_wp2_with fail
      go_ret
      exact ⟨rfl, HF.out⟩
theorem etext_no (l : List (Int × Int)) (L : Nat) (ao : Option Addr) (cap : Nat) (w : World) (h : Rd2 w ao l) (hL : L = l.length) (hr : ¬ Right15 l) :
    Calls Try.prog 38 #[.slice ao L cap] w fun e w' => e = .returned (.string ⟨#[]⟩) ∧ Gr [] w w' := by
  have HC := Lib.hid (eright_no l L ao cap w h hL hr)
  clear h hL hr
  go_enter Try.func38, Try.ntmps38
  go_wp2_with fail
  with_reducible refine HC.out.mono ?_
  rintro e w1 ⟨rfl, g1⟩
  have H1 := Lib.hid g1
  clear g1
  go_wp2_with fail
  go_ret
  exact ⟨rfl, H1.out⟩

end Go.Proofs.Ytpkhfdcokcchdab
