/-
  MgF: EzP, EzA, EzB, EzE, EzQ.
-/
import Derived.Test.YtpkhfdcokcchdaaMgB
import Derived.Test.YtpkhfdcokcchdaaPure
import Derived.Test.YtpkhfdcokcchdaaMgA
import Derived.Test.YtpkhfdcokcchdaaLe
import Derived.Shelf.Strings.BuilderK
import Derived.Deep.RegionHeld3
import Derived.Test.YtpkhfdcokcchdaaMgE

/-
  Layer 15: a list's bytes, and the list of bytes, without the program.
-/
namespace Go.Proofs.Ytpkhfdcokcchdaa

def recB (e : Int × Int) : List UInt8 := putL (e.1 + 1).toNat 4 ++ putL e.2.toNat 4
def bytP (l : List (Int × Int)) : List UInt8 := l.flatMap recB
def pairB (s : List UInt8) : Int × Int := ((getL (s.take 4) : Int) - 1, (getL ((s.drop 4).take 4) : Int))
def parP (s : List UInt8) (k : Nat) : List (Int × Int) := (List.range k).map fun i => pairB (s.drop (8 * i))
theorem recB_len (e : Int × Int) : (recB e).length = 8 := by simp [recB, putL_length]
theorem bytP_cons (e : Int × Int) (r : List (Int × Int)) : bytP (e :: r) = recB e ++ bytP r := by simp [bytP]
theorem bytP_append (A B : List (Int × Int)) : bytP (A ++ B) = bytP A ++ bytP B := by simp [bytP]
theorem bytP_one (e : Int × Int) : bytP [e] = recB e := by simp [bytP]
theorem bytP_len (l : List (Int × Int)) : (bytP l).length = 8 * l.length := by
  induction l with
  | nil => rfl
  | cons e r ih => rw [bytP_cons, List.length_append, recB_len, ih, List.length_cons]; omega
theorem bytP_take {l : List (Int × Int)} {k : Nat} {e : Int × Int} (h : l[k]? = some e) : bytP (l.take (k + 1)) = bytP (l.take k) ++ recB e := by
  obtain ⟨a, b⟩ := List.getElem?_eq_some_iff.1 h
  rw [List.take_succ_eq_append_getElem a, b, bytP_append, bytP_one]
theorem parP_up (s : List UInt8) (k : Nat) : parP s (k + 1) = parP s k ++ [pairB (s.drop (8 * k))] := by
  simp [parP, List.range_succ]
theorem parP_len (s : List UInt8) (k : Nat) : (parP s k).length = k := by simp [parP]
theorem parP_zero (s : List UInt8) : parP s 0 = [] := rfl
theorem pairB_recB {e : Int × Int} (r : List UInt8) (h : -1 ≤ e.1 ∧ e.1 ≤ 65536 ∧ 1 ≤ e.2 ∧ e.2 ≤ 65536) : pairB (recB e ++ r) = e := by
  obtain ⟨a, n⟩ := e
  simp only at h
  have h1 : (recB (a, n) ++ r).take 4 = putL (a + 1).toNat 4 := by
    unfold recB
    rw [List.append_assoc]
    exact List.take_left' (putL_length _ _)
  have h2 : ((recB (a, n) ++ r).drop 4).take 4 = putL n.toNat 4 := by
    unfold recB
    rw [List.append_assoc, List.drop_left' (putL_length _ _)]
    exact List.take_left' (putL_length _ _)
  unfold pairB
  rw [h1, h2, getL_putL, getL_putL]
  have e0 : (256 : Nat) ^ 4 = 4294967296 := by decide
  rw [e0, Nat.mod_eq_of_lt (by omega), Nat.mod_eq_of_lt (by omega)]
  refine Prod.ext ?_ ?_ <;> simp only <;> omega
theorem bytP_drop (l : List (Int × Int)) (i : Nat) : (bytP l).drop (8 * i) = bytP (l.drop i) := by
  induction l generalizing i with
  | nil => simp [bytP]
  | cons e r ih =>
    cases i with
    | zero => simp
    | succ i =>
      rw [bytP_cons, List.drop_succ_cons, ← ih i, show 8 * (i + 1) = 8 * i + 8 by omega, Nat.add_comm, ← List.drop_drop, List.drop_left' (recB_len e)]
theorem parP_bytP {l : List (Int × Int)} (h : ∀ e ∈ l, -1 ≤ e.1 ∧ e.1 ≤ 65536 ∧ 1 ≤ e.2 ∧ e.2 ≤ 65536) : parP (bytP l) l.length = l := by
  refine List.ext_getElem (parP_len _ _) fun i h1 h2 => ?_
  simp only [parP, List.getElem_map, List.getElem_range]
  rw [bytP_drop, List.drop_eq_getElem_cons h2, bytP_cons]
  exact pairB_recB _ (h _ (List.getElem_mem h2))
theorem recB_pairB (t : List UInt8) (h : 8 ≤ t.length) : recB (pairB t) = t.take 8 := by
  unfold recB pairB
  simp only
  have e1 : (((getL (t.take 4) : Nat) : Int) - 1 + 1).toNat = getL (t.take 4) := by omega
  have e2 : (((getL ((t.drop 4).take 4) : Nat) : Int)).toNat = getL ((t.drop 4).take 4) := by omega
  have h1 := putL_getL (t.take 4)
  have h2 := putL_getL ((t.drop 4).take 4)
  rw [List.length_take, Nat.min_eq_left (by omega)] at h1
  rw [List.length_take, List.length_drop, Nat.min_eq_left (by omega)] at h2
  rw [e1, e2, h1, h2]
  rw [show (8 : Nat) = 4 + 4 from rfl, List.take_add]
theorem bytP_parP (s : List UInt8) (k : Nat) (h : 8 * k ≤ s.length) : bytP (parP s k) = s.take (8 * k) := by
  induction k with
  | zero => simp [parP, bytP]
  | succ k ih =>
    rw [parP_up, bytP_append, ih (by omega), bytP_one, recB_pairB _ (by rw [List.length_drop]; omega), show 8 * (k + 1) = 8 * k + 8 by omega, List.take_add]
theorem pairB_bd (s : List UInt8) : -1 ≤ (pairB s).1 ∧ (pairB s).1 ≤ 4294967295 ∧ 0 ≤ (pairB s).2 ∧ (pairB s).2 ≤ 4294967295 := by
  have e0 : (256 : Nat) ^ 4 = 4294967296 := by decide
  have key : ∀ t : List UInt8, getL (t.take 4) < 4294967296 := fun t => by
    have h1 := getL_lt (t.take 4)
    have h2 : (256 : Nat) ^ (t.take 4).length ≤ 256 ^ 4 := Nat.pow_le_pow_right (by omega) (by rw [List.length_take]; omega)
    omega
  have h1 := key s
  have h2 := key (s.drop 4)
  unfold pairB
  simp only
  omega
/-- The bytes of a list that may be tell that list alone. -/
theorem parP_of {s : List UInt8} {T : List (Int × Int)} (h : Right15 T) (hs : s = bytP T) (k : Nat) (hk : s.length = 8 * k) : parP s k = T := by
  have hl := bytP_len T
  rw [← hs] at hl
  have : k = T.length := by omega
  subst this
  rw [hs]
  exact parP_bytP (okK_all h.2.1).1
theorem bytP_inj {A B : List (Int × Int)} (hA : Right15 A) (hB : Right15 B) (h : bytP A = bytP B) : A = B := by
  have h1 := parP_of hA rfl A.length (bytP_len A)
  have h2 := parP_of hB h A.length (bytP_len A)
  rw [← h1, h2]

end Go.Proofs.Ytpkhfdcokcchdaa

/-
  Layer 15: the program's Text.
-/
namespace Go.Proofs.Ytpkhfdcokcchdaa
open Go.RowKit Go.Shelf

def EzA.ren : Go.Shelf.Ren := ⟨fun | 166 => 94 | 169 => 96 | 240 => 115 | 276 => 131 | n => n, fun | 0 => 0 | 3 => 3 | 4 => 4 | 5 => 5 | 9 => 9 | 20 => 20 | 37 => 49 | 70 => 156 | 72 => 158 | 75 => 160 | 127 => 183 | 164 => 199 | 80 => 86 | n => n, fun | n => n⟩
theorem EzA.w : Go.Proofs.Lays.n166 Try.prog EzA.ren where
  mixed := by kernel_rfl
  f166 := Try.func94.trans (congrArg some (by kernel_rfl))
  f240 := Try.func115.trans (congrArg some (by kernel_rfl))
  f276 := Try.func131.trans (congrArg some (by kernel_rfl))
  t0 := Try.underlying0
  a0 := Try.isAgg0
  z0 := Try.sizeOf0
  v0 := Try.zeroValue0
  t3 := Try.underlying3
  a3 := Try.isAgg3
  z3 := Try.sizeOf3
  v3 := Try.zeroValue3
  t4 := Try.underlying4
  a4 := Try.isAgg4
  z4 := Try.sizeOf4
  v4 := Try.zeroValue4
  t9 := Try.underlying9
  a9 := Try.isAgg9
  z9 := Try.sizeOf9
  v9 := Try.zeroValue9
  t20 := Try.underlying20
  a20 := Try.isAgg20
  z20 := Try.sizeOf20
  v20 := Try.zeroValue20
  t37 := Try.underlying49
  a37 := Try.isAgg49
  z37 := Try.sizeOf49
  v37 := Try.zeroValue49
  t70 := Try.underlying156
  a70 := Try.isAgg156
  z70 := Try.sizeOf156
  v70 := Try.zeroValue156
  t72 := Try.underlying158
  a72 := Try.isAgg158
  z72 := Try.sizeOf158
  v72 := Try.zeroValue158
  t75 := Try.underlying160
  a75 := Try.isAgg160
  z75 := Try.sizeOf160
  v75 := Try.zeroValue160
  t164 := Try.underlying199
  a164 := Try.isAgg199
  z164 := Try.sizeOf199
  v164 := Try.zeroValue199
theorem EzA.s : Go.Proofs.Lays.n169 Try.prog EzA.ren where
  mixed := by kernel_rfl
  f169 := Try.func96.trans (congrArg some (by kernel_rfl))
  t0 := Try.underlying0
  a0 := Try.isAgg0
  z0 := Try.sizeOf0
  v0 := Try.zeroValue0
  t3 := Try.underlying3
  a3 := Try.isAgg3
  z3 := Try.sizeOf3
  v3 := Try.zeroValue3
  t9 := Try.underlying9
  a9 := Try.isAgg9
  z9 := Try.sizeOf9
  v9 := Try.zeroValue9
  t37 := Try.underlying49
  a37 := Try.isAgg49
  z37 := Try.sizeOf49
  v37 := Try.zeroValue49
  t70 := Try.underlying156
  a70 := Try.isAgg156
  z70 := Try.sizeOf156
  v70 := Try.zeroValue156
  t72 := Try.underlying158
  a72 := Try.isAgg158
  z72 := Try.sizeOf158
  v72 := Try.zeroValue158
  t127 := Try.underlying183
  a127 := Try.isAgg183
  z127 := Try.sizeOf183
  v127 := Try.zeroValue183

theorem EzA.extra : Builder.Extra Try.prog EzA.ren where
  sizeBuilder := by kernel_rfl
  liesBuilder := by kernel_rfl
  t5 := Try.underlying5
  a5 := Try.isAgg5
  z5 := Try.sizeOf5
  v5 := Try.zeroValue5
  infoByte := by kernel_rfl
  cellsByte := by kernel_rfl
  sizeByte := by kernel_rfl
  neB5 := by decide
theorem EzA.fW : EzA.ren.f 166 = 94 := by kernel_rfl
theorem EzA.fS : EzA.ren.f 169 = 96 := by kernel_rfl
/-- A builder at block b that holds bytes, in memory from B on. -/
def IsB (B b : Nat) (l : List UInt8) (w : World) : Prop := Lib.IsBuilderF 158 5 B b (Lib.byteCells l) w
theorem bat_gr0 {T e : TypeId} {B b : Nat} {p : Value} {bs : List Value} {w w' : World} (h : Lib.BuilderAtF T e B b p bs w) (g : Gr [] w w') : Lib.BuilderAtF T e B b p bs w' := by
  have hlt := h.lt
  obtain ⟨hB, v, hb, hown, hne⟩ := h
  exact ⟨hB, v, (g.block b hlt (by simp)).trans hb, hown.kept (row := none) ⟨g.os, g.tape, g.output, g.size, fun k hk _ => g.block k hk (by simp)⟩ (by cases hv : v.ownBlock <;> simp), hne⟩
theorem IsB.gr0 {B b : Nat} {l : List UInt8} {w w' : World} (h : IsB B b l w) (g : Gr [] w w') : IsB B b l w' :=
  h.elim (fun x => .inl (bat_gr0 x g)) (fun x => .inr (bat_gr0 x g))
theorem IsB.new (w : World) : IsB w.heap.size w.heap.size [] (w.alloc (.cells #[.pointer none, .slice none 0 0] 158)) := Lib.IsBuilderF.of (Lib.fresh_isBuilder _ _ w)
theorem Gr.thenB {a b c : World} (h : Gr [] a b) (k : Below a.heap.size b c) : Gr [] a c :=
  ⟨k.os.trans h.os, k.tape.trans h.tape, k.output.trans h.output, Nat.le_trans h.size k.size, fun i hi hn => (k.block i hi).trans (h.block i hi hn)⟩
theorem IsB.lt {B b : Nat} {l : List UInt8} {w : World} (h : IsB B b l w) : b < w.heap.size := h.elim (fun x => x.lt) (fun x => x.lt)
theorem kept_holds {w w' : World} {b k : Nat} {cs : Array Value} {t : TypeId} (h : Lib.OthersKept 5 (some b) w w') (hh : Holds w k cs t) (hk : k ≠ b) (ht : t ≠ 5) : Holds w' k cs t :=
  h k _ hh (fun e => hk (Option.some.inj e)) (fun _ _ e => by injection e with _ h2 _; exact ht h2)
theorem write_any (B b : Nat) (l m : List UInt8) (s : ByteArray) (w : World) (h : IsB B b l w) (hm : s.data.toList = m) (hl : l.length + m.length ≤ 140737488355328) (hB : B ≤ w.heap.size) :
    Calls Try.prog 94 #[.pointer (some ⟨b, 0, none⟩), .string s] w fun e w' => (∃ v, e = .returned v) ∧ IsB B b (l ++ m) w' ∧ Below B w w' ∧ Lib.OthersKept 5 (some b) w w' := by
  subst hm
  have q := Any.Builder_WriteString_k EzA.w EzA.extra B b (Lib.byteCells l) s w h (by rw [Lib.byteCells_length, Lib.size_eq]; exact hl) hB
  rw [EzA.fW] at q
  refine q.mono ?_
  rintro e w' ⟨rfl, h1, h2, h3⟩
  refine ⟨⟨_, rfl⟩, ?_, h2, h3⟩
  have hh : Lib.byteCells (l ++ s.data.toList) = Lib.byteCells l ++ Lib.strCells s := by simp [Lib.byteCells, Lib.strCells]
  unfold IsB
  rw [hh]
  exact .inr h1
theorem string_any (B b : Nat) (l : List UInt8) (S : ByteArray) (w : World) (h : IsB B b l w) (hS : S.data.toList = l) (hB : B ≤ w.heap.size) :
    Calls Try.prog 96 #[.pointer (some ⟨b, 0, none⟩)] w fun e w' => e = .returned (.string S) ∧ Below B w w' := by
  obtain rfl : S = ⟨l.toArray⟩ := by
    subst hS
    rfl
  have q := Any.Builder_String_any_k EzA.s EzA.extra B b l w h hB
  rw [EzA.fS] at q
  exact q.mono fun e w' ⟨he, _, h2, _⟩ => ⟨he, h2⟩
theorem putS4 (n : Nat) (S : ByteArray) (w : World) (hn : n < 18446744073709551616) (hS : S = ⟨(putL n 4).toArray⟩) :
    Calls Try.prog 95 #[.int .u64 n, .int .i64 4] w fun e w' => e = .returned (.string S) ∧ Below w.heap.size w w' := by
  subst hS
  exact put_any n 4 w hn

set_option maxHeartbeats 1000000 in
set_option maxRecDepth 20000 in
theorem etext_yes (l : List (Int × Int)) (L : Nat) (S : ByteArray) (ao : Option Addr) (cap : Nat) (w : World) (h : Rd2 w ao l) (hL : L = l.length) (hr : Right15 l) (hS : S.data.toList = bytP l) :
    Calls Try.prog 44 #[.slice ao L cap] w fun e w' => e = .returned (.string S) ∧ Gr [] w w' := by
  have HR := Lib.hid h
  have HL := Lib.hid hL
  have HX := Lib.hid hr
  have HS := Lib.hid hS
  have hL64 : L ≤ 64 := by rw [hL]; exact hr.1
  clear h hL hS hr
  go_enter Try.func44, Try.ntmps44
  go_wp2_with fail
  with_reducible refine (eright_yes l L ao cap w HR.out HL.out HX.out).mono ?_
  rintro e w1 ⟨rfl, g1⟩
  have H1 := Lib.hid (And.intro (HR.out.gr0 g1) g1)
  have HB0 := Lib.hid (IsB.new w1)
  have HA0 := Lib.hid ((Gr.refl [] w1).alloc (Obj.cells #[.pointer none, .slice none 0 0] 158))
  clear g1 HR
  obtain ⟨b, hb⟩ : ∃ b, w1.heap.size = b := ⟨_, rfl⟩
  rw [hb] at HB0
  go_wp2_with fail
  generalize w1.alloc (Obj.cells #[.pointer none, .slice none 0 0] 158) = w2 at *
  go_loopw [11] (fun i wr => ∃ k : Nat, k ≤ L ∧ i = .int .i64 k ∧ IsB b b (bytP (l.take k)) wr ∧ Gr [] w1 wr) (fun i _ => L - (intOf i).toNat)
  case atStart => exact ⟨0, by omega, rfl, HB0.out, HA0.out⟩
  case round =>
    obtain ⟨k, hk, rfl, hB, G⟩ := hrel
    have hsz := G.size
    rw [hb] at hsz
    by_cases hkL : k < L
    · have hkL2 : (k : Int) < (L : Int) := by omega
      obtain ⟨⟨x1, x2⟩, hx⟩ : ∃ x, l[k]? = some x := ⟨_, List.getElem?_eq_getElem (by have := HL.out; omega)⟩
      obtain ⟨bk, o, hao, hbk, c1, c2⟩ := H1.out.1 k _ hx
      have y0 : wr.cell? ⟨bk, o + k * 2, none⟩ = some (.int .i64 x1) := (G.cell0 hbk).trans c1
      have y1 : wr.cell? ⟨bk, o + k * 2 + 1, none⟩ = some (.int .i64 x2) := (G.cell0 hbk).trans c2
      have hxb := HX.out.all _ (List.mem_of_getElem? hx)
      simp only at hxb
      have HST := Lib.hid (bytP_take hx)
      obtain ⟨n1, hn1⟩ : ∃ n1 : Nat, (n1 : Int) = x1 + 1 := ⟨(x1 + 1).toNat, by omega⟩
      obtain ⟨n2, hn2⟩ : ∃ n2 : Nat, (n2 : Int) = x2 := ⟨x2.toNat, by omega⟩
      have hrb : recB (x1, x2) = putL n1 4 ++ putL n2 4 := by
        unfold recB
        simp only
        rw [show (x1 + 1).toNat = n1 by omega, show x2.toNat = n2 by omega]
      rw [hrb] at HST
      have hw1 : IntKind.i64.wrap (x1 + 1) = x1 + 1 := IntWalk.i64_in _ (by omega)
      have hw2 : IntKind.u64.wrap (x1 + 1) = (n1 : Int) := by rw [hn1]; exact IntWalk.u64_in _ (by omega)
      have hw3 : IntKind.u64.wrap x2 = (n2 : Int) := by rw [hn2]; exact IntWalk.u64_in _ (by omega)
      have hn1b : n1 < 18446744073709551616 := by omega
      have hn2b : n2 < 18446744073709551616 := by omega
      have hblt := hB.lt
      have hlen : (bytP (l.take k)).length ≤ 1000 := by rw [bytP_len, List.length_take]; omega
      have z0 := (Holds.new wr #[.int .i64 x1, .int .i64 x2] 35).cell 0
      have HX1 := Lib.hid (Holds.new wr #[.int .i64 x1, .int .i64 x2] 35)
      have HB := Lib.hid (hB.gr0 ((Gr.refl [] wr).alloc (Obj.cells #[.int .i64 x1, .int .i64 x2] 35)))
      have HG := Lib.hid (G.alloc (Obj.cells #[.int .i64 x1, .int .i64 x2] 35))
      obtain ⟨S1, hS1⟩ : ∃ S : ByteArray, S = ⟨(putL n1 4).toArray⟩ := ⟨_, rfl⟩
      obtain ⟨S2, hS2⟩ : ∃ S : ByteArray, S = ⟨(putL n2 4).toArray⟩ := ⟨_, rfl⟩
      have HP1 := Lib.hid (fun W => putS4 n1 S1 W hn1b hS1)
      have HP2 := Lib.hid (fun W => putS4 n2 S2 W hn2b hS2)
      have HS1 := Lib.hid (show S1.data.toList = putL n1 4 by rw [hS1])
      have HS2 := Lib.hid (show S2.data.toList = putL n2 4 by rw [hS2])
      obtain ⟨P, hP⟩ : ∃ P, P = bytP (l.take k) := ⟨_, rfl⟩
      rw [← hP] at HB HST hlen
      subst hao
      clear c1 c2 hx hrb hB G hS1 hS2 hn1 hn2 hP hxb hn1b hn2b
      go_wp2_with fail
      with_reducible refine (HP1.out _).mono ?_
      rintro e w3 ⟨rfl, g3⟩
      have HB3 := Lib.hid (HB.out.gr0 (.ofBelow g3))
      have HG3 := Lib.hid (HG.out.nextB g3)
      have HX3 := Lib.hid (HX1.out.below g3)
      clear g3 HB HG HX1 z0
      generalize wr.heap.size = bx at *
      have hsz3 : b ≤ w3.heap.size := by have := HG3.out.size; omega
      go_wp2_with fail
      with_reducible refine (write_any b b P (putL n1 4) S1 w3 HB3.out HS1.out (by rw [putL_length]; omega) hsz3).mono ?_
      rintro e w4 ⟨⟨v4, rfl⟩, hB4, g4, k4⟩
      have g4' : Below w1.heap.size w3 w4 := by rw [hb]; exact g4
      have HB4 := Lib.hid hB4
      have HG4 := Lib.hid (HG3.out.thenB g4')
      have HX4 := Lib.hid (kept_holds k4 HX3.out (by omega) (by decide))
      have z1 := HX4.out.cell 1
      clear hB4 g4 k4 g4' HB3 HG3 HX3 hsz3
      go_wp2_with fail
      with_reducible refine (HP2.out _).mono ?_
      rintro e w5 ⟨rfl, g5⟩
      have HB5 := Lib.hid (HB4.out.gr0 (.ofBelow g5))
      have HG5 := Lib.hid (HG4.out.nextB g5)
      clear g5 HB4 HG4 HX4 z1
      have hsz5 : b ≤ w5.heap.size := by have := HG5.out.size; omega
      go_wp2_with fail
      with_reducible refine (write_any b b (P ++ putL n1 4) (putL n2 4) S2 w5 HB5.out HS2.out (by rw [List.length_append, putL_length, putL_length]; omega) hsz5).mono ?_
      rintro e w6 ⟨⟨v6, rfl⟩, hB6, g6, -⟩
      have g6' : Below w1.heap.size w5 w6 := by rw [hb]; exact g6
      have HB6 := Lib.hid (show IsB b b (bytP (l.take (k + 1))) w6 by rw [HST.out, ← List.append_assoc]; exact hB6)
      have HG6 := Lib.hid (HG5.out.thenB g6')
      clear hB6 g6 g6' HB5 HG5
      go_wp2_with fail
      go_roundw
      case rel => exact ⟨k + 1, by omega, by go_num, HB6.out, HG6.out⟩
      case measure => simp [intOf]; omega
    · obtain rfl : k = L := by omega
      have ht : l.take k = l := by rw [HL.out]; exact List.take_length
      rw [ht] at hB
      have HB := Lib.hid hB
      have HG := Lib.hid (H1.out.2.next0 G)
      have HST := Lib.hid (string_any b b (bytP l) S wr hB HS.out hsz)
      have HG1 := Lib.hid G
      clear hB G
      go_wp2_with fail
      with_reducible refine HST.out.mono ?_
      rintro e w5 ⟨rfl, g5⟩
      have g5' : Below w1.heap.size wr w5 := by rw [hb]; exact g5
      have HF := Lib.hid (H1.out.2.next0 (HG1.out.thenB g5'))
      go_wp2_with fail
      go_ret
      exact ⟨rfl, HF.out⟩
theorem etext_no (l : List (Int × Int)) (L : Nat) (ao : Option Addr) (cap : Nat) (w : World) (h : Rd2 w ao l) (hL : L = l.length) (hr : ¬ Right15 l) :
    Calls Try.prog 44 #[.slice ao L cap] w fun e w' => e = .returned (.string ⟨#[]⟩) ∧ Gr [] w w' := by
  have HC := Lib.hid (eright_no l L ao cap w h hL hr)
  clear h hL hr
  go_enter Try.func44, Try.ntmps44
  go_wp2_with fail
  with_reducible refine HC.out.mono ?_
  rintro e w1 ⟨rfl, g1⟩
  have H1 := Lib.hid g1
  clear g1
  go_wp2_with fail
  go_ret
  exact ⟨rfl, H1.out⟩

end Go.Proofs.Ytpkhfdcokcchdaa

/-
  Layer 15: the program's Parse.
-/
namespace Go.Proofs.Ytpkhfdcokcchdaa
open Go.RowKit

def strOf : Value → Nat
  | .string s => s.size
  | _ => 0
theorem extr_list (s : ByteArray) (i j : Nat) : (s.extract i j).data.toList = (s.data.toList.drop i).take (j - i) := by
  rw [ByteArray.data_extract, Array.toList_extract, List.extract_eq_take_drop]
theorem get4_any (x : ByteArray) (n : Nat) (w : World) (hx : x.size ≤ 8) (hn : getL x.data.toList = n) :
    Calls Try.prog 99 #[.string x] w fun e w' => e = .returned (.int .u64 n) ∧ w' = w := by
  subst hn
  refine (get_any x w (by unfold maxLen; omega)).mono fun _ _ ⟨h1, h2⟩ => ⟨?_, h2.symm⟩
  rw [h1, List.take_of_length_le (by rw [← Lib.size_eq]; exact hx)]

set_option maxHeartbeats 2000000 in
set_option maxRecDepth 20000 in
theorem eparse_in (s : ByteArray) (K : Nat) (w : World) (hK : s.size = 8 * K) (hK2 : K ≤ 64) :
    Calls Try.prog 49 #[.string s] w fun e w' => Gr [] w w' ∧ ((∃ ao cap, e = .returned (.tuple #[.slice ao K cap, .int .i64 0]) ∧ Sl2 w' (.slice ao K cap) (parP s.data.toList K) ∧ Right15 (parP s.data.toList K)) ∨ (¬ Right15 (parP s.data.toList K) ∧ e = .returned (.tuple #[.slice none 0 0, .int .i64 4]))) := by
  obtain ⟨i0, hi0, hz0, hz1, hz2⟩ := info_parts infoExt
  have hr1 : (s.size : Int) % 8 = 0 := by omega
  have hr2 : (s.size : Int) ≤ 512 := by omega
  have HK := Lib.hid hK
  have hlen : s.data.toList.length = 8 * K := by rw [← Lib.size_eq]; exact hK
  obtain ⟨D, hD⟩ : ∃ D, D = s.data.toList := ⟨_, rfl⟩
  have HD := Lib.hid hD
  rw [← hD] at hlen ⊢
  have HLE := Lib.hid hlen
  clear hK hD hlen
  go_enter Try.func49, Try.ntmps49
  go_wp2_with fail
  clear hr1 hr2
  go_loopw [0, 4] (fun x v wr => ∃ (k : Nat) (X : ByteArray), k ≤ K ∧ x = .string X ∧ Hid (X.data.toList = D.drop (8 * k)) ∧ Hid (X.size = 8 * (K - k)) ∧ wr.ownsRow w.heap.size 35 2 v (parP D k).length (cells2 (parP D k)) ∧ Gr [] w wr) (fun x _ _ => strOf x)
  case atStart => exact ⟨0, s, by omega, rfl, Lib.hid (by rw [HD.out]; rfl), Lib.hid (by rw [HK.out]; omega), World.ownsRow_nil _ _ _ _, Gr.refl _ _⟩
  case round =>
    obtain ⟨k, X, hk, rfl, HXD, HXS, ho, G⟩ := hrel
    have HQ := Lib.hid (And.intro ho G)
    have hsz := G.size
    clear ho G
    by_cases hkK : k < K
    · have hX8 : 8 ≤ X.size := by rw [HXS.out]; omega
      have hX9 : X.size ≤ 512 := by rw [HXS.out]; omega
      obtain ⟨n1, hn1⟩ : ∃ n1, n1 = getL (X.extract 0 4).data.toList := ⟨_, rfl⟩
      obtain ⟨n2, hn2⟩ : ∃ n2, n2 = getL (X.extract 4 8).data.toList := ⟨_, rfl⟩
      have HG1 := Lib.hid (fun W => get4_any (X.extract 0 4) n1 W (by rw [ByteArray.size_extract]; omega) hn1.symm)
      have HG2 := Lib.hid (fun W => get4_any (X.extract 4 8) n2 W (by rw [ByteArray.size_extract]; omega) hn2.symm)
      have HPB := Lib.hid (show pairB (D.drop (8 * k)) = ((n1 : Int) - 1, (n2 : Int)) by
        unfold pairB
        rw [← HXD.out, hn1, hn2, extr_list, extr_list]
        rfl)
      have hbd := pairB_bd (D.drop (8 * k))
      rw [HPB.out] at hbd
      simp only at hbd
      have HUP := Lib.hid (parP_up D k)
      rw [HPB.out] at HUP
      have hw1 : IntKind.i64.wrap (n1 : Int) = n1 := IntWalk.i64_in _ (by omega)
      have hw2 : IntKind.i64.wrap ((n1 : Int) - 1) = (n1 : Int) - 1 := IntWalk.i64_in _ (by omega)
      have hw3 : IntKind.i64.wrap (n2 : Int) = n2 := IntWalk.i64_in _ (by omega)
      have hXe : X.toList.isEmpty = false := by
        rw [ByteArray.toList_eq]
        have := Lib.size_eq X
        cases hq : X.data.toList with
        | nil => rw [hq, List.length_nil] at this; omega
        | cons a b => rfl
      have hX8i : (8 : Int) ≤ (X.size : Int) := by omega
      have hX4i : (4 : Int) ≤ (X.size : Int) := by omega
      have hX4 : 4 ≤ X.size := by omega
      clear hn1 hn2
      go_wp2_with fail
      go_region_held3 (fun _ : World => True) (trivial) ((first
        | (go_at_call 99; (with_reducible refine (HG1.out _).mono ?_); rintro r w10 ⟨rfl, rfl⟩)
        | (go_at_call 99; (with_reducible refine (HG2.out _).mono ?_); rintro r w10 ⟨rfl, rfl⟩)))
      all_goals
        have hzs : w.heap.size ≤ wr.drew.heap.size := hsz
        have HOY := Lib.hid (own_gr0 HQ.out.1 ((Gr.refl [] wr).drew))
        have HGY := Lib.hid (HQ.out.2.drew)
        generalize wr.drew = wy at *
        obtain ⟨C, hC⟩ : ∃ C, C = parP D k := ⟨_, rfl⟩
        have hCl : C.length = k := by rw [hC]; exact parP_len D k
        rw [← hC] at HOY HUP
        have HUPL := Lib.hid (show (parP D (k + 1)).length = C.length + 1 by rw [HUP.out]; simp)
        clear hC HQ
        have HN3 := Lib.hid (Holds.new wy #[.int .i64 ((n1 : Int) - 1), .int .i64 n2] 35)
        have HO3 := Lib.hid (HOY.out.alloc (Obj.cells #[.int .i64 ((n1 : Int) - 1), .int .i64 n2] 35))
        have hone : ∀ u ∈ [Value.int .i64 ((n1 : Int) - 1), .int .i64 n2], u.oneCell' = true := by simp [Value.oneCell']
        have HCL := Lib.hid hCl
        have hCb : C.length ≤ 64 := by omega
        clear hCl
        go_wp2_with (at_builtin; refine wpList_append_own _ rfl _ _ 82 rfl w.heap.size 35 i0 _ 2 16 Try.underlying82 hi0 hz0 hz1 hz2 rfl (by decide) _ _ _ rfl HO3.out ⟨wy.heap.size, 0, none⟩ 1 1 [.int .i64 ((n1 : Int) - 1), .int .i64 n2] rfl rfl (World.news_of_block HN3.out) hone (by unfold maxLen; omega) (by omega) (by rw [World.size_alloc]; omega) ?_)
        intro v4 w4 hown4 hgrow4 _
        have hlt4 := HO3.out.lt
        have HF := Lib.hid (And.intro (show w4.ownsRow w.heap.size 35 2 v4 (parP D (k + 1)).length (cells2 (parP D (k + 1))) by
          rw [HUPL.out, HUP.out, cells2_append]; exact hown4) ((HGY.out.alloc (Obj.cells #[.int .i64 ((n1 : Int) - 1), .int .i64 n2] 35)).nextN (gr_grown hgrow4) (fun x hx => .inr (hlt4 x (by simpa using hx)).1)))
        clear hown4 hgrow4 hlt4 HO3 HN3 hone
        have HXN := Lib.hid (show (X.extract 8 X.size).data.toList = D.drop (8 * (k + 1)) by
          rw [extr_list, HXD.out, List.drop_drop, List.take_of_length_le]
          · congr 1
          · rw [List.length_drop, HLE.out, HXS.out]; omega)
        have HXM := Lib.hid (show (X.extract 8 X.size).size = 8 * (K - (k + 1)) by
          rw [ByteArray.size_extract, HXS.out]; omega)
        go_wp2_with fail
        go_roundw
        case rel => exact ⟨k + 1, _, by omega, rfl, HXN, HXM, HF.out.1, HF.out.2⟩
        case measure =>
          have := HXM.out
          have := HXS.out
          simp only [strOf]
          omega
    · obtain rfl : k = K := by omega
      have hX0 : X.size = 0 := by rw [HXS.out]; omega
      have hXe : X.toList.isEmpty = true := by
        rw [ByteArray.toList_eq, List.isEmpty_iff]
        exact List.length_eq_zero_iff.1 (by rw [← Lib.size_eq]; exact hX0)
      obtain rfl : X = ⟨#[]⟩ := by
        apply ByteArray.ext
        exact Array.size_eq_zero_iff.1 hX0
      clear hX0 hXe
      obtain ⟨T, hT⟩ : ∃ T, T = parP D k := ⟨_, rfl⟩
      have hTl : T.length = k := by rw [hT]; exact parP_len D k
      rw [← hT, hTl] at HQ
      have HTD := Lib.hid hT
      obtain ⟨ao, cap, rfl⟩ := own_form HQ.out.1
      have hS := own_sl2 HQ.out.1
      have HS := Lib.hid hS
      have HTL := Lib.hid hTl
      have HR := Lib.hid (eright_any T k ao cap wr (sl2_parts hS).2.1 hTl.symm)
      clear hS hT hTl
      go_wp2_with fail
      refine HR.out.mono ?_
      rintro e w5 ⟨⟨bb, hbb, rfl⟩, g5⟩
      have HB := Lib.hid hbb
      have HF := Lib.hid (And.intro (HS.out.gr0 g5) (HQ.out.2.next0 g5))
      clear hbb g5
      cases bb with
      | true =>
        go_wp2_with fail
        refine bodyPost_ret (v := .tuple #[.slice ao k cap, .int .i64 0]) (by simp [results, Try.results49, go_sem]) rfl ⟨HF.out.2, .inl (by rw [← HTD.out]; exact ⟨ao, cap, rfl, HF.out.1, by have := HB.out; simpa using this⟩)⟩
      | false =>
        go_wp2_with fail
        refine bodyPost_ret (v := .tuple #[.slice none 0 0, .int .i64 4]) (by simp [results, Try.results49, go_sem]) rfl ⟨HF.out.2, .inr (by rw [← HTD.out]; exact ⟨by have := HB.out; simpa using this, rfl⟩)⟩
theorem eparse_out (s : ByteArray) (w : World) (hs : s.size ≤ maxLen) (h : ¬ (s.size % 8 = 0 ∧ s.size ≤ 512)) :
    Calls Try.prog 49 #[.string s] w fun e w' => e = .returned (.tuple #[.slice none 0 0, .int .i64 4]) ∧ w' = w := by
  unfold maxLen at hs
  by_cases h8 : s.size % 8 = 0
  · have hr1 : (s.size : Int) % 8 = 0 := by omega
    have hr2 : (512 : Int) < (s.size : Int) := by omega
    clear h
    go_enter Try.func49, Try.ntmps49
    go_wp2_with fail
    exact bodyPost_ret (v := .tuple #[.slice none 0 0, .int .i64 4]) (by simp [results, Try.results49, go_sem]) rfl ⟨rfl, rfl⟩
  · have hr1 : ¬ (s.size : Int) % 8 = 0 := by omega
    have hr2 : ((s.size : Int) % 8 != 0) = true := by simp; omega
    clear h
    go_enter Try.func49, Try.ntmps49
    go_wp2_with fail
    exact bodyPost_ret (v := .tuple #[.slice none 0 0, .int .i64 4]) (by simp [results, Try.results49, go_sem]) rfl ⟨rfl, rfl⟩

end Go.Proofs.Ytpkhfdcokcchdaa

/-
  Layer 15: Parse of any bytes.
-/
namespace Go.Proofs.Ytpkhfdcokcchdaa
open Go.RowKit

theorem eparse_of (T : List (Int × Int)) (S : ByteArray) (w : World) (h : Right15 T) (hS : S.data.toList = bytP T) :
    Calls Try.prog 49 #[.string S] w fun e w' => ∃ ao cap, e = .returned (.tuple #[.slice ao T.length cap, .int .i64 0]) ∧ Sl2 w' (.slice ao T.length cap) T ∧ Gr [] w w' := by
  have hz : S.size = 8 * T.length := by rw [Lib.size_eq, hS, bytP_len]
  have hp := parP_of h hS T.length (by rw [← Lib.size_eq]; exact hz)
  refine (eparse_in S T.length w hz h.1).mono ?_
  rw [hp]
  rintro e w' ⟨g, ⟨ao, cap, rfl, hs, _⟩ | ⟨hn, _⟩⟩
  · exact ⟨ao, cap, rfl, hs, g⟩
  · exact absurd h hn
/-- What Parse answers, of any bytes. -/
theorem eparse_any (s : ByteArray) (w : World) (hs : s.size ≤ maxLen) :
    Calls Try.prog 49 #[.string s] w fun e w' => Gr [] w w' ∧ ((∃ T ao cap, e = .returned (.tuple #[.slice ao T.length cap, .int .i64 0]) ∧ Sl2 w' (.slice ao T.length cap) T ∧ Right15 T ∧ s.data.toList = bytP T) ∨ ((¬ ∃ T, Right15 T ∧ s.data.toList = bytP T) ∧ e = .returned (.tuple #[.slice none 0 0, .int .i64 4]))) := by
  by_cases h8 : s.size % 8 = 0 ∧ s.size ≤ 512
  · obtain ⟨K, hK⟩ : ∃ K, s.size = 8 * K := ⟨s.size / 8, by omega⟩
    have hl : s.data.toList.length = 8 * K := by rw [← Lib.size_eq]; exact hK
    have hb := bytP_parP s.data.toList K (by omega)
    rw [List.take_of_length_le (by omega)] at hb
    have hpl := parP_len s.data.toList K
    refine (eparse_in s K w hK (by omega)).mono ?_
    rintro e w' ⟨g, ⟨ao, cap, rfl, hs, hr⟩ | ⟨hn, rfl⟩⟩
    · refine ⟨g, .inl ⟨parP s.data.toList K, ao, cap, ?_, ?_, hr, hb.symm⟩⟩
      · rw [hpl]
      · rw [hpl]; exact hs
    · refine ⟨g, .inr ⟨?_, rfl⟩⟩
      rintro ⟨T, hT, he⟩
      exact hn (by rw [parP_of hT he K hl]; exact hT)
  · refine (eparse_out s w hs h8).mono ?_
    rintro e w' ⟨rfl, rfl⟩
    refine ⟨Gr.refl _ _, .inr ⟨?_, rfl⟩⟩
    rintro ⟨T, hT, he⟩
    have := bytP_len T
    rw [← he, ← Lib.size_eq] at this
    have := hT.1
    omega

end Go.Proofs.Ytpkhfdcokcchdaa

/-
  Layer 15: a list grown run by run, and block by block, without the program.
-/
namespace Go.Proofs.Ytpkhfdcokcchdaa

theorem sum_nonneg {l : List (Int × Int)} (h : ∀ e ∈ l, 1 ≤ e.2) : 0 ≤ sumZ l := by
  have := (sumZ_mem h).1
  omega
theorem right_take {T : List (Int × Int)} (h : Right15 T) (k : Nat) : Right15 (T.take k) := by
  have ha := h.all
  have hs : sumZ T = sumZ (T.take k) + sumZ (T.drop k) := by rw [← sumZ_append, List.take_append_drop]
  have hn := sum_nonneg (l := T.drop k) (fun e he => (ha e (List.mem_of_mem_drop he)).2.2.1)
  have hsT := h.2.2
  have hap : apartP (T.take k) = true := by
    by_cases hk : k ≤ T.length
    · exact (okK_le h.2.1 hk).2
    · rw [List.take_of_length_le (by omega)]; exact h.apart
  exact .of (by rw [List.length_take]; have := h.1; omega) (fun e he => ha e (List.mem_of_mem_take he)) hap (by omega)
def stepB (T : List (Int × Int)) (k : Nat) (a : Int) (j : Nat) : List (Int × Int) := T.take k ++ (if j = 0 then [] else [(a, (j : Int))])
theorem stepB_zero (T : List (Int × Int)) (k : Nat) (a : Int) : stepB T k a 0 = T.take k := by simp [stepB]
theorem stepB_up (T : List (Int × Int)) (k : Nat) (a : Int) (j : Nat) : stepB T k a (j + 1) = T.take k ++ [(a, (j : Int) + 1)] := by simp [stepB]
theorem stepB_all {T : List (Int × Int)} {k : Nat} {a : Int} {n : Nat} (h : T[k]? = some (a, (n : Int))) (hn : 1 ≤ n) : stepB T k a n = T.take (k + 1) := by
  obtain ⟨x, y⟩ := List.getElem?_eq_some_iff.1 h
  rw [List.take_succ_eq_append_getElem x, y]
  unfold stepB
  rw [if_neg (by omega)]
theorem apart_len {A : List (Int × Int)} {a n m : Int} (h : apartP (A ++ [(a, n)]) = true) : apartP (A ++ [(a, m)]) = true := by
  rcases List.eq_nil_or_concat A with q | ⟨B, p, q⟩
  · rw [q]; simp [apartP]
  · rw [List.concat_eq_append] at q
    rw [q, apart_snoc] at h ⊢
    rw [mrg_len p a m n]
    exact h
theorem right_step {T : List (Int × Int)} (h : Right15 T) {k : Nat} {a : Int} {n : Nat} (hx : T[k]? = some (a, (n : Int))) {j : Nat} (hj : j ≤ n) : Right15 (stepB T k a j) := by
  have hk1 := right_take h k
  have hk2 := right_take h (k + 1)
  obtain ⟨x, y⟩ := List.getElem?_eq_some_iff.1 hx
  rw [List.take_succ_eq_append_getElem x, y] at hk2
  by_cases h0 : j = 0
  · subst h0
    rw [stepB_zero]; exact hk1
  · have hs : stepB T k a j = T.take k ++ [(a, (j : Int))] := by unfold stepB; rw [if_neg h0]
    rw [hs]
    have hl := hk2.1
    rw [List.length_append] at hl
    have hs2 := hk2.2.2
    rw [sumZ_append] at hs2
    simp only [sumZ] at hs2
    have hb := h.all _ (List.mem_of_getElem? hx)
    simp only at hb
    refine .of (by rw [List.length_append]; simpa using hl) (fun e he => ?_) (apart_len hk2.apart) (by rw [sumZ_append]; simp only [sumZ]; omega)
    rcases List.mem_append.1 he with q | q
    · exact hk1.all e q
    · simp at q
      subst q
      simp only
      omega
/-- One run more: the next one. -/
theorem app_take {T : List (Int × Int)} (h : Right15 T) {k : Nat} {a n : Int} (hx : T[k]? = some (a, n)) : appO (T.take k) a n = (0, T.take (k + 1)) := by
  have hk1 := right_take h k
  have hk2 := right_take h (k + 1)
  obtain ⟨x, y⟩ := List.getElem?_eq_some_iff.1 hx
  have ht : T.take (k + 1) = T.take k ++ [(a, n)] := by rw [List.take_succ_eq_append_getElem x, y]
  have hj : joinP (T.take k ++ [(a, n)]) = T.take (k + 1) := by rw [← ht]; exact join_apart _ hk2.apart
  have hb := h.all _ (List.mem_of_getElem? hx)
  unfold appO
  rw [if_pos hk1, hj, if_pos ⟨(one_right _).2 hb, hk2⟩]
/-- One block more of a run. -/
theorem app_step {T : List (Int × Int)} (h : Right15 T) {k : Nat} {a : Int} {n : Nat} (hx : T[k]? = some (a, (n : Int))) {j : Nat} (hj : j < n) (hb : a + (j : Int) ≤ 65536) :
    appO (stepB T k a j) (if a = -1 then -1 else a + (j : Int)) 1 = (0, stepB T k a (j + 1)) := by
  have hr1 := right_step h hx (j := j) (by omega)
  have hr2 := right_step h hx (j := j + 1) (by omega)
  have hba := h.all _ (List.mem_of_getElem? hx)
  simp only at hba
  have hone : Right15 [((if a = -1 then -1 else a + (j : Int) : Int), (1 : Int))] := (one_right _).2 (by simp only; split <;> omega)
  have hjn : joinP (stepB T k a j ++ [((if a = -1 then -1 else a + (j : Int) : Int), (1 : Int))]) = stepB T k a (j + 1) := by
    by_cases h0 : j = 0
    · subst h0
      have e1 : (if a = -1 then (-1 : Int) else a + ((0 : Nat) : Int)) = a := by split <;> omega
      rw [e1, stepB_zero]
      have := stepB_up T k a 0
      rw [show ((0 : Nat) : Int) + 1 = 1 from rfl] at this
      rw [← this]
      exact join_apart _ hr2.apart
    · have hs : stepB T k a j = T.take k ++ [(a, (j : Int))] := by unfold stepB; rw [if_neg h0]
      have hj1 : joinP (stepB T k a j ++ [((if a = -1 then -1 else a + (j : Int) : Int), (1 : Int))]) = addR (joinP (stepB T k a j)) ((if a = -1 then -1 else a + (j : Int) : Int), (1 : Int)) := by
        unfold joinP
        rw [List.foldl_append]
        rfl
      rw [hj1, join_apart _ hr1.apart, hs, addR_snoc, if_pos (by
        unfold mrg
        by_cases q : a = -1
        · simp [q]
        · simp [q]
          omega), stepB_up]
  unfold appO
  rw [if_pos hr1, hjn, if_pos ⟨hone, hr2⟩]

end Go.Proofs.Ytpkhfdcokcchdaa
