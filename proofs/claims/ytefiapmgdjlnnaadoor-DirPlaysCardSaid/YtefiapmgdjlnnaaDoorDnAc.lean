/-
  DnAc: PaP, PaL, PaN, PaO.
-/
import Derived.Test.YtefiapmgdjlnnaaDoorDnAb
import Derived.Test.YtefiapmgdjlnnaaDoorDnAa
import Derived.Lib.Join
import Derived.Lib.Strings
import Derived.Lib.Bytealg
import Derived.Shelf.Strings.Prefix
import Derived.Shelf.Strings.IndexAnyAll
import Derived.Shelf.Strings.Search2
import Derived.Shelf.Strings.OnBuilder
import Derived.Ground.NamesProg
import Derived.Laws.RangeAny
import Derived.Laws.Runes
import Derived.Laws.RangeString
import Derived.Laws.Strings3
import Derived.Deep.LoopGhost
import Derived.Lib.Hide
import Derived.WalkMore

set_option linter.unusedVariables false

/-
  Layer 18: a path's pieces, its way and its text, without the program.
-/
namespace Go.Proofs.YtefiapmgdjlnnaaDoor

/-- May it be a name? -/
def nameP (p : List UInt8) : Bool := decide (1 ≤ p.length) && decide (p.length ≤ 32) && decide (p ≠ [46]) && decide (p ≠ [46, 46]) && p.all (fun b => decide (b ≠ 0) && decide (b ≠ 47))
/-- A string, by its bytes. -/
def bsL (l : List UInt8) : ByteArray := ⟨l.toArray⟩
def sv (l : List UInt8) : Value := .string (bsL l)
theorem bsL_data (l : List UInt8) : (bsL l).data.toList = l := rfl
theorem bsL_list (l : List UInt8) : (bsL l).toList = l := by rw [Lib.toList_data]; rfl
theorem bsL_size (l : List UInt8) : (bsL l).size = l.length := rfl
end Go.Proofs.YtefiapmgdjlnnaaDoor

/-
  Layer 18: what Go's strings package says, at this program.
-/
namespace Go.Proofs.YtefiapmgdjlnnaaDoor
open Go.RowKit Go.Shelf

def PaL.any_ren : Go.Shelf.Ren := ⟨fun | 150 => 31 | 153 => 42 | 152 => 50 | 226 => 51 | 227 => 52 | 228 => 53 | 137 => 69 | 119 => 70 | 224 => 71 | 225 => 72 | 217 => 84 | 266 => 88 | n => n, fun | 9 => 9 | 4 => 4 | 3 => 3 | 5 => 5 | 21 => 21 | 117 => 93 | 116 => 92 | 0 => 0 | 46 => 84 | 124 => 114 | n => n, fun | n => n⟩
theorem PaL.any : Go.Proofs.Lays.n150 Tryd.prog PaL.any_ren where
  mixed := by kernel_rfl
  f119 := Tryd.func70.trans (congrArg some (by kernel_rfl))
  f137 := Tryd.func69.trans (congrArg some (by kernel_rfl))
  f150 := Tryd.func31.trans (congrArg some (by kernel_rfl))
  f152 := Tryd.func50.trans (congrArg some (by kernel_rfl))
  f153 := Tryd.func42.trans (congrArg some (by kernel_rfl))
  f217 := Tryd.func84.trans (congrArg some (by kernel_rfl))
  f224 := Tryd.func71.trans (congrArg some (by kernel_rfl))
  f225 := Tryd.func72.trans (congrArg some (by kernel_rfl))
  f226 := Tryd.func51.trans (congrArg some (by kernel_rfl))
  f227 := Tryd.func52.trans (congrArg some (by kernel_rfl))
  f228 := Tryd.func53.trans (congrArg some (by kernel_rfl))
  f266 := Tryd.func88.trans (congrArg some (by kernel_rfl))
  t0 := Tryd.underlying0
  a0 := Tryd.isAgg0
  z0 := Tryd.sizeOf0
  v0 := Tryd.zeroValue0
  t3 := Tryd.underlying3
  a3 := Tryd.isAgg3
  z3 := Tryd.sizeOf3
  v3 := Tryd.zeroValue3
  t4 := Tryd.underlying4
  a4 := Tryd.isAgg4
  z4 := Tryd.sizeOf4
  v4 := Tryd.zeroValue4
  t5 := Tryd.underlying5
  a5 := Tryd.isAgg5
  z5 := Tryd.sizeOf5
  v5 := Tryd.zeroValue5
  t9 := Tryd.underlying9
  a9 := Tryd.isAgg9
  z9 := Tryd.sizeOf9
  v9 := Tryd.zeroValue9
  t21 := Tryd.underlying21
  a21 := Tryd.isAgg21
  z21 := Tryd.sizeOf21
  v21 := Tryd.zeroValue21
  t46 := Tryd.underlying84
  a46 := Tryd.isAgg84
  z46 := Tryd.sizeOf84
  v46 := Tryd.zeroValue84
  t116 := Tryd.underlying92
  a116 := Tryd.isAgg92
  z116 := Tryd.sizeOf92
  t117 := Tryd.underlying93
  a117 := Tryd.isAgg93
  z117 := Tryd.sizeOf93
  v117 := Tryd.zeroValue93
  t124 := Tryd.underlying114
  a124 := Tryd.isAgg114
  z124 := Tryd.sizeOf114
  v124 := Tryd.zeroValue114


theorem PaL.fIby : PaL.any_ren.f 137 = 69 := by kernel_rfl
theorem PaL.fIan : PaL.any_ren.f 153 = 42 := by kernel_rfl
theorem PaL.fUse : PaL.any_ren.f 226 = 51 := by kernel_rfl
theorem PaL.fRun : PaL.any_ren.f 152 = 50 := by kernel_rfl
theorem PaL.h116 : (Tryd.prog.info? (PaL.any_ren.t 116)).map (fun i => (i.zero, i.size)) = some (some (.agg (Array.replicate 256 (.bool false))), 256) := by kernel_rfl

theorem iby_at (S : ByteArray) (c : Int) (w : World) : Calls Tryd.prog 69 #[.string S, .int .u8 c] w fun e w' => e = .returned (.int .i64 (Lib.indexByte S.data.toList c.toNat.toUInt8)) ∧ w' = w := by
  have q := Any.strings_IndexByte { PaL.any with } S c w
  rw [PaL.fIby] at q
  exact q
theorem irun_at (S : ByteArray) (r : Int) (w : World) (h0 : 0 ≤ r) (h1 : r < 128) : Calls Tryd.prog 50 #[.string S, .int .i32 r] w fun e w' => e = .returned (.int .i64 (Lib.indexByte S.data.toList r.toNat.toUInt8)) ∧ w' = w := by
  have q := Any.strings_IndexRune_ascii { PaL.any with } S r w h0 h1
  rw [PaL.fRun] at q
  exact q
theorem iuse_at (n : Int) (w : World) : Calls Tryd.prog 51 #[.int .i64 n] w fun e w' => e = .returned (.bool (decide (8 < n))) ∧ w' = w := by
  have q := Any.strings_shouldUseASCIISet { PaL.any with } n w
  rw [PaL.fUse] at q
  exact q
theorem ian_long (s : List UInt8) (w : World) (h8 : 8 < s.length) (hs : s.length < 4294967281) :
    Calls Tryd.prog 42 #[sv s, sv [0, 47]] w fun e w' => e = .returned (.int .i64 (Lib.indexAny s [0, 47])) ∧ Below w.heap.size w w' := by
  have q := Any.strings_IndexAny_long { PaL.any with } (zero_of_info PaL.h116).1 (zero_of_info PaL.h116).2 (bsL s) (bsL [0, 47]) w (by decide) h8 hs (by decide) (fun j b hj => by
    have : b ∈ [(0 : UInt8), 47] := List.mem_of_getElem? hj
    simp at this
    rcases this with rfl | rfl <;> decide)
  rw [PaL.fIan] at q
  refine q.mono fun e w' ⟨h1, h2⟩ => ⟨h1, ?_⟩
  rw [h2]
  exact ((Below.refl _ _).alloc (Nat.le_refl _) _).alloc (by simp) _

end Go.Proofs.YtefiapmgdjlnnaaDoor

/-
  Layers 17 and 18: may it be a name: what the program says (strings.ContainsAny of any bytes, for a zero byte and a slash), and the document.
-/
namespace Go.Proofs.YtefiapmgdjlnnaaDoor
open Go.RowKit Go.Shelf

theorem decode_skip (s : ByteArray) (i : Nat) (h : i < s.size) : i + (Utf8.decode s i).2 ≤ s.size ∧ ∀ k, 1 ≤ k → k < (Utf8.decode s i).2 → 128 ≤ (s.get! (i + k)).toNat := by
  have hc : ∀ k, (decide (i + k < s.size) && ((s.get! (i + k)).toNat / 64 == 2)) = true → i + k < s.size ∧ 128 ≤ (s.get! (i + k)).toNat := fun k e => by
    simp at e
    omega
  have one : ∀ c : Nat, i + (c, 1).2 ≤ s.size ∧ ∀ k, 1 ≤ k → k < (c, 1).2 → 128 ≤ (s.get! (i + k)).toNat := fun c => ⟨h, fun k h1 h2 => absurd h2 (by show ¬ k < 1; omega)⟩
  unfold Utf8.decode
  dsimp only
  split
  · exact one _
  · split
    · rename_i q
      rw [Bool.and_eq_true] at q
      split
      · refine ⟨?_, fun k h1 h2 => ?_⟩
        · have := (hc 1 q.2).1; show i + 2 ≤ _; omega
        · have h2' : k < 2 := h2
          obtain rfl : k = 1 := by omega
          exact (hc 1 q.2).2
      · exact one _
    · split
      · rename_i q
        rw [Bool.and_eq_true, Bool.and_eq_true] at q
        split
        · refine ⟨?_, fun k h1 h2 => ?_⟩
          · have := (hc 2 q.2).1; show i + 3 ≤ _; omega
          · have h2' : k < 3 := h2
            rcases (show k = 1 ∨ k = 2 by omega) with rfl | rfl
            · exact (hc 1 q.1.2).2
            · exact (hc 2 q.2).2
        · exact one _
      · split
        · rename_i q
          rw [Bool.and_eq_true, Bool.and_eq_true, Bool.and_eq_true] at q
          split
          · refine ⟨?_, fun k h1 h2 => ?_⟩
            · have := (hc 3 q.2).1; show i + 4 ≤ _; omega
            · have h2' : k < 4 := h2
              rcases (show k = 1 ∨ k = 2 ∨ k = 3 by omega) with rfl | rfl | rfl
              · exact (hc 1 q.1.1.2).2
              · exact (hc 2 q.1.2).2
              · exact (hc 3 q.2).2
          · exact one _
        · exact one _

theorem valid_at (r : Int) (w : World) : Calls Tryd.prog 70 #[.int .i32 r] w fun e w' => e = .returned (.bool (Utf8.valid r)) ∧ w' = w := by
  rw [validRune_eq]
  unfold validRune
  by_cases h0 : 0 ≤ r
  · by_cases h1 : r < 55296
    · rw [decide_eq_true (.inl ⟨h0, h1⟩)]
      go_enter Tryd.func70, Tryd.ntmps70
      go_wp2
      go_ret
      exact ⟨rfl, rfl⟩
    · by_cases h2 : 57343 < r
      · by_cases h3 : r ≤ 1114111
        · rw [decide_eq_true (.inr ⟨h2, h3⟩)]
          go_enter Tryd.func70, Tryd.ntmps70
          go_wp2
          go_ret
          exact ⟨rfl, rfl⟩
        · rw [decide_eq_false (by omega)]
          go_enter Tryd.func70, Tryd.ntmps70
          go_wp2
          go_ret
          exact ⟨rfl, rfl⟩
      · rw [decide_eq_false (by omega)]
        go_enter Tryd.func70, Tryd.ntmps70
        go_wp2
        go_ret
        exact ⟨rfl, rfl⟩
  · rw [decide_eq_false (by omega)]
    go_enter Tryd.func70, Tryd.ntmps70
    go_wp2
    go_ret
    exact ⟨rfl, rfl⟩
/-- A reader of a string, wherever it lies. -/
def itr (w : World) (k : Nat) (s : ByteArray) (pos : Nat) : World := { w with heap := w.heap.setIfInBounds k (.stringIter s pos) }
theorem run_next_at {P : Program} (w : World) (k : Nat) (s : ByteArray) (pos : Nat) (ty : TypeId) (hk : w.heap[k]? = some (.stringIter s pos)) (h : pos < s.size) :
    (Instr.next (.pointer (some ⟨k, 0, none⟩)) true ty).run P w = .ok (.tuple #[.bool true, .int .i64 pos, .int .i32 (Utf8.decode s pos).1]) (itr w k s (pos + (Utf8.decode s pos).2)) := by
  simp only [Instr.next, getObj, setObj, Sem.run_bind, Sem.run, hk, Result.andThen, h, if_true]
  simp [goInt, itr]
theorem run_next_stop {P : Program} (w : World) (k : Nat) (s : ByteArray) (pos : Nat) (ty : TypeId) (hk : w.heap[k]? = some (.stringIter s pos)) (h : ¬ pos < s.size) :
    (Instr.next (.pointer (some ⟨k, 0, none⟩)) true ty).run P w = .ok (.tuple #[.bool false]) w := by
  simp [Instr.next, getObj, Sem.run, hk, h]
theorem itr_heap {w : World} {k : Nat} (s : ByteArray) (pos : Nat) (h : k < w.heap.size) : (itr w k s pos).heap[k]? = some (.stringIter s pos) := by
  simp [itr, h]
theorem below_itr {B : Nat} {a w : World} (h : Below B a w) {k : Nat} (hk : B ≤ k) (s : ByteArray) (pos : Nat) : Below B a (itr w k s pos) :=
  ⟨h.os, h.tape, h.output, by simpa [Go.Proofs.YtefiapmgdjlnnaaDoor.itr] using h.size, fun j hj => by
    rw [← h.block j hj]
    simp only [Go.Proofs.YtefiapmgdjlnnaaDoor.itr]
    rw [Array.getElem?_setIfInBounds_ne (by omega)]⟩

set_option maxHeartbeats 4000000 in
set_option maxRecDepth 1000000 in
/-- A rune that is no byte is not among a zero byte and a slash. -/
theorem run_hi (r : Int) (w : World) (h0 : 128 ≤ r) (h1 : r ≤ 2147483647) : Calls Tryd.prog 50 #[.string (bsL [0, 47]), .int .i32 r] w fun e w' => e = .returned (.int .i64 (-1)) ∧ Below w.heap.size w w' := by
  have n0 : ¬ r < 128 := by omega
  by_cases hfd : r = 65533
  · subst hfd
    go_enter Tryd.func50, Tryd.ntmps50
    go_wp2
    go_loopg [5, 6] 2 (fun g _ _ wx => ∃ i : Nat, i + g = 2 ∧ wx = w.iter (bsL [0, 47]) i)
    case atStart => exact ⟨0, rfl, rfl⟩
    case round =>
      obtain ⟨i, hig, rfl⟩ := hrel
      cases gk with
      | zero =>
        obtain rfl : i = 2 := by omega
        have hnx := fun ty => run_next_end (P := Tryd.prog) w (bsL [0, 47]) 2 ty (by decide)
        go_wp2
        go_ret
        exact ⟨rfl, (Below.refl _ w).alloc (Nat.le_refl _) _⟩
      | succ g =>
        rcases (show i = 0 ∨ i = 1 by omega) with rfl | rfl
        · have hnx := fun ty => run_next_ascii (P := Tryd.prog) w (bsL [0, 47]) 0 ty (by decide) (by decide)
          have e0 : (((bsL [0, 47])[0]'(by decide)).toNat : Int) = 0 := by rfl
          simp only [e0] at hnx
          go_wp2
          go_roundg g
          case measure => omega
          case rel => exact ⟨1, by omega, rfl⟩
        · have hnx := fun ty => run_next_ascii (P := Tryd.prog) w (bsL [0, 47]) 1 ty (by decide) (by decide)
          have e0 : (((bsL [0, 47])[1]'(by decide)).toNat : Int) = 47 := by rfl
          simp only [e0] at hnx
          go_wp2
          go_roundg g
          case measure => omega
          case rel => exact ⟨2, by omega, rfl⟩
  · cases hv : Utf8.valid r
    · go_enter Tryd.func50, Tryd.ntmps50
      go_wp2_with (go_at_call 70; refine (valid_at _ _).mono ?_; rintro e w1 ⟨rfl, hw⟩; rw [hw, hv])
      go_ret
      exact ⟨rfl, Below.refl _ _⟩
    · obtain ⟨e1, e2, e3⟩ := encode_facts r hv h0
      have z2 : (bsL [0, 47]).size = 2 := rfl
      by_cases h2 : (Utf8.encode r).size = 2
      · have u2 : IntKind.i64.wrap ((Utf8.encode r).size - 1) = 1 := by rw [h2]; rfl
        have hi : 1 < (Utf8.encode r).size := by omega
        have hi2 : (1 : Int) < (Utf8.encode r).size := by omega
        have hb : 128 ≤ ((Utf8.encode r)[1]'hi).toNat := by
          have q := e3 (by omega)
          simpa only [h2] using q
        obtain ⟨x, hx⟩ : ∃ x : UInt8, (Utf8.encode r)[1]'hi = x := ⟨_, rfl⟩
        rw [hx] at hb
        have b1 : (bsL [0, 47])[1]'(by decide) = 47 := rfl
        have et : ∀ y, Lib.indexByte ByteArray.empty.data.toList y = -1 := fun y => rfl
        have xne : ((47 : Int) == (x.toNat : Int)) = false := by simp; omega
        clear e3
        go_enter Tryd.func50, Tryd.ntmps50
        go_wp2_with (go_at_call 70; refine (valid_at _ _).mono ?_; rintro e w1 ⟨rfl, hw⟩; rw [hw, hv])
        go_wp2
        go_step3
        go_wp2
        go_loopw [9, 10] (fun i f wr => i = .int .i64 1 ∧ f = .int .i64 0 ∧ wr = w) (fun _ _ _ => 0)
        case atStart => exact ⟨rfl, rfl, rfl⟩
        case round =>
          obtain ⟨rfl, rfl, rfl⟩ := hrel
          clear hw
          have mixed : Tryd.prog.follows .mixedOrders = true := by kernel_rfl
          go_wp2
          go_step3
          go_wp2
          go_region_o
          go_wp2
          go_region_with (go_at_call 69; refine (iby_at _ _ _).mono ?_; rintro e w2 ⟨rfl, hw⟩; rw [hw, et])
          all_goals go_wp2
          all_goals simp +zetaDelta only [Exit.inBlock, Exit.then, Exit.noGoto_ret]
          all_goals (refine bodyPost_ret (results_tmp rfl _ _ _) rfl ?_)
          all_goals exact ⟨rfl, (Below.refl _ _).drew.drew⟩
      · have u2 : IntKind.i64.wrap ((Utf8.encode r).size - 1) = ((Utf8.encode r).size - 1 : Nat) := by rw [IntWalk.i64_in _ (by omega)]; omega
        have i2 : ¬ ((((Utf8.encode r).size - 1 : Nat) : Int) < 2) := by omega
        clear e3
        go_enter Tryd.func50, Tryd.ntmps50
        go_wp2_with (go_at_call 70; refine (valid_at _ _).mono ?_; rintro e w1 ⟨rfl, hw⟩; rw [hw, hv])
        go_wp2
        go_step3
        go_wp2
        go_loopw [9, 10] (fun i f wr => i = .int .i64 ((Utf8.encode r).size - 1 : Nat) ∧ f = .int .i64 0 ∧ wr = w) (fun _ _ _ => 0)
        case atStart => exact ⟨rfl, rfl, rfl⟩
        case round =>
          obtain ⟨rfl, rfl, rfl⟩ := hrel
          clear hw
          go_wp2
          try rw [Exit.noGoto_ret]
          go_ret
          exact ⟨rfl, Below.refl _ _⟩

end Go.Proofs.YtefiapmgdjlnnaaDoor

/-
  Layers 17 and 18: strings.ContainsAny of any bytes, for a zero byte and a slash; may it be a name, by the program and by the document.
-/
namespace Go.Proofs.YtefiapmgdjlnnaaDoor
open Go.RowKit Go.Shelf

theorem bsL_get {s : List UInt8} {j : Nat} {b : UInt8} (h : s[j]? = some b) : (bsL s).get! j = b := by
  obtain ⟨h1, h2⟩ := List.getElem?_eq_some_iff.1 h
  simp [bsL, ByteArray.get!, h1, h2]
theorem bsL_at {s : List UInt8} {j : Nat} (h : j < (bsL s).size) : s[j]? = some ((bsL s)[j]'h) := by
  have := Lib.data_getElem? (bsL s) j h
  exact this
theorem no_high {b : UInt8} (h : 128 ≤ b.toNat) : ([0, 47] : List UInt8).contains b = false := by
  have h0 : b ≠ 0 := fun e => by subst e; exact absurd h (by decide)
  have h1 : b ≠ 47 := fun e => by subst e; exact absurd h (by decide)
  simp [h0, h1]
theorem noAny_skip {s : List UInt8} {i m : Nat} (h : Lib.NoAny s [0, 47] i) (h0 : ∀ b, s[i]? = some b → 128 ≤ b.toNat) (hk : ∀ k, 1 ≤ k → k < m → 128 ≤ ((bsL s).get! (i + k)).toNat) : Lib.NoAny s [0, 47] (i + m) := fun j b hj hb => by
  by_cases h1 : j < i
  · exact h j b h1 hb
  · by_cases h2 : j = i
    · subst h2; exact no_high (h0 b hb)
    · have q := hk (j - i) (by omega) (by omega)
      rw [show i + (j - i) = j by omega, bsL_get hb] at q
      exact no_high q

set_option maxHeartbeats 8000000 in
set_option maxRecDepth 1000000 in
theorem ian_short (s : List UInt8) (w : World) (h8 : s.length ≤ 8) :
    Calls Tryd.prog 42 #[.string (bsL s), .string (bsL [0, 47])] w fun e w' => e = .returned (.int .i64 (Lib.indexAny s [0, 47])) ∧ Below w.heap.size w w' := by
  have hemp : (bsL [0, 47]).toList.isEmpty = false := by rw [bsL_list]; rfl
  have hn1 : (((bsL [0, 47]).size : Int) == 1) = false := by rfl
  have h8z : decide ((8 : Int) < ((bsL s).size : Int)) = false := decide_eq_false (by rw [bsL_size]; omega)
  go_enter Tryd.func42, Tryd.ntmps42
  go_wp2_with (go_at_call 51; refine (iuse_at _ _).mono ?_; rintro e w' ⟨rfl, hw⟩; rw [hw, h8z])
  go_loopg [9, 10] (bsL s).size (fun g _ _ wx => ∃ i : Nat, (bsL s).size ≤ i + g ∧ i ≤ (bsL s).size ∧ Below w.heap.size w wx ∧ wx.heap[w.heap.size]? = some (.stringIter (bsL s) i) ∧ Lib.NoAny s [0, 47] i)
  case atStart => exact ⟨0, by omega, by omega, (Below.refl _ w).alloc (Nat.le_refl _) _, World.iter_heap _ _ _, Lib.NoAny.zero _ _⟩
  case round =>
    obtain ⟨i, hig, hin, hB, hit, hno⟩ := hrel
    have HN : Aside (Lib.NoAny s [0, 47] i) := hno
    have HB : Aside (Below w.heap.size w wr) := hB
    clear hno hB
    by_cases hi : i < (bsL s).size
    · cases gk with
      | zero => omega
      | succ g =>
        obtain ⟨x, hx⟩ : ∃ x : UInt8, (bsL s)[i]'hi = x := ⟨_, rfl⟩
        have hxl : s[i]? = some x := by rw [← hx]; exact bsL_at hi
        have Hx : Aside (s[i]? = some x) := hxl
        have hnx := fun ty => run_next_at (P := Tryd.prog) wr w.heap.size (bsL s) i ty hit hi
        have hk : w.heap.size < wr.heap.size := (Array.getElem?_eq_some_iff.1 hit).1
        by_cases hx128 : x.toNat < 128
        · rw [decode_ascii (bsL s) i hi (by rw [hx]; exact hx128), hx] at hnx
          have hcon := Lib.contains_iff_indexByte [0, 47] x
          have hback : ((x.toNat : Int)).toNat.toUInt8 = x := by simp
          clear hxl
          cases hin2 : ([0, 47] : List UInt8).contains x
          · rw [hin2] at hcon
            have hlt : ¬ ((0 : Int) ≤ Lib.indexByte [0, 47] x) := of_decide_eq_false hcon.symm
            clear hcon
            go_wp2_with (go_at_call 50; refine (irun_at _ _ _ (by omega) (by omega)).mono ?_; rintro e w' ⟨rfl, hw⟩; rw [hw, hback, bsL_data])
            go_roundg g
            case measure => omega
            case rel => exact ⟨i + 1, by omega, by omega, below_itr HB.out (Nat.le_refl _) _ _, itr_heap _ _ hk, HN.out.succ Hx.out hin2⟩
          · rw [hin2] at hcon
            have hge : (0 : Int) ≤ Lib.indexByte [0, 47] x := of_decide_eq_true hcon.symm
            clear hcon
            go_wp2_with (go_at_call 50; refine (irun_at _ _ _ (by omega) (by omega)).mono ?_; rintro e w' ⟨rfl, hw⟩; rw [hw, hback, bsL_data])
            go_ret
            exact ⟨by rw [Lib.indexAny_hit HN.out Hx.out hin2]; rfl, below_itr HB.out (Nat.le_refl _) _ _⟩
        · obtain ⟨d1, d2⟩ := decode_high (bsL s) i hi (by rw [hx]; omega)
          have d3 := decode_le (bsL s) i
          obtain ⟨d4, d5⟩ := decode_skip (bsL s) i hi
          have HS : Aside (Lib.NoAny s [0, 47] (i + (Utf8.decode (bsL s) i).2)) := noAny_skip HN.out (fun b hb => by rw [hxl] at hb; cases hb; omega) d5
          obtain ⟨r, hr⟩ : ∃ r, r = (Utf8.decode (bsL s) i).1 := ⟨_, rfl⟩
          obtain ⟨m, hm⟩ : ∃ m, m = (Utf8.decode (bsL s) i).2 := ⟨_, rfl⟩
          rw [← hr] at d1 d3 hnx
          rw [← hm] at d2 d4 hnx HS
          clear d5 hr hm hxl
          have HR := Lib.hid (fun W => run_hi r W (by omega) (by omega))
          go_wp2_with (go_at_call 50; refine (HR.out _).mono ?_; rintro e w' ⟨rfl, hb⟩)
          go_roundg g
          case measure => omega
          case rel => exact ⟨i + m, by omega, by omega, HB.out.trans ((below_itr (Below.refl _ _) (Nat.le_refl _) _ _).trans (hb.mono (by simp [itr]; omega))), (hb.block _ (by simp [itr]; omega)).trans (itr_heap _ _ hk), HS.out⟩
    · obtain rfl : i = (bsL s).size := by omega
      have hnx := fun ty => run_next_stop (P := Tryd.prog) wr w.heap.size (bsL s) _ ty hit hi
      go_wp2
      go_ret
      exact ⟨by rw [Lib.indexAny_none (by rw [← bsL_size]; exact HN.out)]; rfl, HB.out⟩

theorem any_all (s : List UInt8) : decide (0 ≤ Lib.indexAny s [0, 47]) = !(s.all fun b => decide (b ≠ 0) && decide (b ≠ 47)) := by
  induction s with
  | nil => rfl
  | cons b r ih =>
    have hge := Lib.indexAny_ge [0, 47] r
    rw [Lib.indexAny, List.all_cons]
    by_cases h0 : b = 0
    · subst h0; rfl
    · by_cases h1 : b = 47
      · subst h1; rfl
      · have hc : ([0, 47] : List UInt8).contains b = false := by simp [h0, h1]
        rw [hc, if_neg (by simp)]
        have hd : (decide (b ≠ 0) && decide (b ≠ 47)) = true := by simp [h0, h1]
        rw [hd, Bool.true_and, ← ih]
        by_cases hm : Lib.indexAny r [0, 47] = -1
        · rw [hm]; rfl
        · rw [if_neg (by simpa using hm)]
          exact decide_eq_decide.2 (by omega)
theorem ian_at (s : List UInt8) (w : World) (hs : s.length < 4294967281) :
    Calls Tryd.prog 42 #[.string (bsL s), .string (bsL [0, 47])] w fun e w' => e = .returned (.int .i64 (Lib.indexAny s [0, 47])) ∧ Below w.heap.size w w' := by
  by_cases h : s.length ≤ 8
  · exact ian_short s w h
  · exact ian_long s w (by omega) hs
theorem has_at (s : List UInt8) (w : World) (hs : s.length < 4294967281) :
    Calls Tryd.prog 31 #[.string (bsL s), .string (bsL [0, 47])] w fun e w' => e = .returned (.bool (!(s.all fun b => decide (b ≠ 0) && decide (b ≠ 47)))) ∧ Below w.heap.size w w' := by
  rw [← any_all]
  have HI := Lib.hid (fun W => ian_at s W hs)
  go_enter Tryd.func31, Tryd.ntmps31
  go_wp2_with (go_at_call 42; refine (HI.out _).mono ?_; rintro e w' ⟨rfl, hb⟩)
  go_ret
  exact ⟨rfl, hb⟩
theorem nameP_eq {s : List UInt8} (h0 : s ≠ []) (h1 : ¬ 32 < s.length) (h2 : s ≠ [46]) (h3 : s ≠ [46, 46]) : nameP s = s.all fun b => decide (b ≠ 0) && decide (b ≠ 47) := by
  have : 1 ≤ s.length := by cases s with | nil => exact absurd rfl h0 | cons _ _ => simp
  unfold nameP
  rw [decide_eq_true this, decide_eq_true (by omega : s.length ≤ 32), decide_eq_true h2, decide_eq_true h3]
  rfl
theorem nameP_no {s : List UInt8} (h : s = [] ∨ 32 < s.length ∨ s = [46] ∨ s = [46, 46]) : nameP s = false := by
  rcases h with rfl | h | rfl | rfl
  · rfl
  · have : decide (s.length ≤ 32) = false := decide_eq_false (by omega)
    unfold nameP
    rw [this]
    simp
  · rfl
  · rfl
/-- What a name's check says. -/
def nmE (s : List UInt8) : Int := if nameP s then 0 else 18

set_option maxHeartbeats 2000000 in
set_option maxRecDepth 1000000 in
theorem dname_at (s : List UInt8) (w : World) : Calls Tryd.prog 17 #[.string (bsL s)] w fun e w' => e = .returned (.int .i64 (nmE s)) ∧ Below w.heap.size w w' := by
  by_cases h0 : s = []
  · subst h0
    have hl := bsL_list []
    have hz : (bsL []).size = 0 := rfl
    go_enter Tryd.func17, Tryd.ntmps17
    go_wp2
    go_ret
    exact ⟨rfl, Below.refl _ _⟩
  have hl := bsL_list s
  have hz := bsL_size s
  by_cases h1 : 32 < s.length
  · have hE : nmE s = 18 := by unfold nmE; rw [nameP_no (.inr (.inl h1))]; rfl
    have i1 : (32 : Int) < ((bsL s).size : Int) := by omega
    rw [hE]
    go_enter Tryd.func17, Tryd.ntmps17
    go_wp2
    go_ret
    exact ⟨rfl, Below.refl _ _⟩
  have i1 : ¬ ((32 : Int) < ((bsL s).size : Int)) := by omega
  by_cases h2 : s = [46]
  · subst h2
    have hz : (bsL [46]).size = 1 := rfl
    go_enter Tryd.func17, Tryd.ntmps17
    go_wp2
    go_ret
    exact ⟨rfl, Below.refl _ _⟩
  by_cases h3 : s = [46, 46]
  · subst h3
    have hz : (bsL [46, 46]).size = 2 := rfl
    go_enter Tryd.func17, Tryd.ntmps17
    go_wp2
    go_ret
    exact ⟨rfl, Below.refl _ _⟩
  have hE : nmE s = if (s.all fun b => decide (b ≠ 0) && decide (b ≠ 47)) then 0 else 18 := by unfold nmE; rw [nameP_eq h0 h1 h2 h3]
  rw [hE]
  have HI := Lib.hid (fun W => has_at s W (by omega))
  have f0 : s.isEmpty = false := by simpa using h0
  have f1 : decide ((32 : Int) < (s.length : Int)) = false := decide_eq_false (by omega)
  have f2 : (s == [46]) = false := by simpa using h2
  have f3 : (s == [46, 46]) = false := by simpa using h3
  obtain ⟨q, hq⟩ : ∃ q, q = s.all fun b => decide (b ≠ 0) && decide (b ≠ 47) := ⟨_, rfl⟩
  rw [← hq] at HI ⊢
  clear hq hE
  cases q
  all_goals
    go_enter Tryd.func17, Tryd.ntmps17
    go_wp2_with (go_at_call 31; refine (HI.out _).mono ?_; rintro e w' ⟨rfl, hb⟩)
    go_ret
    exact ⟨rfl, hb⟩

set_option maxHeartbeats 2000000 in
set_option maxRecDepth 1000000 in
theorem rname_all (s : List UInt8) (w : World) : Calls Tryd.prog 18 #[.string (bsL s)] w fun e w' => e = .returned (.int .i64 (nmE s)) ∧ w' = w := by
  have hl := bsL_list s
  by_cases h0 : s = []
  · subst h0
    have hz : (bsL []).size = 0 := rfl
    go_enter Tryd.func18, Tryd.ntmps18
    go_wp2
    go_ret
    exact ⟨rfl, rfl⟩
  have hz := bsL_size s
  have i0 : ¬ (((bsL s).size : Int) < 1) := by
    have : 1 ≤ s.length := by cases s with | nil => exact absurd rfl h0 | cons _ _ => simp
    omega
  by_cases h1 : 32 < s.length
  · have hE : nmE s = 18 := by unfold nmE; rw [nameP_no (.inr (.inl h1))]; rfl
    have i1 : (32 : Int) < ((bsL s).size : Int) := by omega
    rw [hE]
    go_enter Tryd.func18, Tryd.ntmps18
    go_wp2
    go_ret
    exact ⟨rfl, rfl⟩
  have i1 : ¬ ((32 : Int) < ((bsL s).size : Int)) := by omega
  by_cases h2 : s = [46]
  · subst h2
    have hz : (bsL [46]).size = 1 := rfl
    go_enter Tryd.func18, Tryd.ntmps18
    go_wp2
    go_ret
    exact ⟨rfl, rfl⟩
  by_cases h3 : s = [46, 46]
  · subst h3
    have hz : (bsL [46, 46]).size = 2 := rfl
    go_enter Tryd.func18, Tryd.ntmps18
    go_wp2
    go_ret
    exact ⟨rfl, rfl⟩
  have hE : nmE s = if (s.all fun b => decide (b ≠ 0) && decide (b ≠ 47)) then 0 else 18 := by unfold nmE; rw [nameP_eq h0 h1 h2 h3]
  have f0 : decide ((s.length : Int) < 1) = false := decide_eq_false (by omega)
  have f1 : decide ((32 : Int) < (s.length : Int)) = false := decide_eq_false (by omega)
  have f2 : (s == [46]) = false := by simpa using h2
  have f3 : (s == [46, 46]) = false := by simpa using h3
  obtain ⟨q, hq⟩ : ∃ q, q = nmE s := ⟨_, rfl⟩
  rw [← hq]
  rw [hE] at hq
  have HQ := Lib.hid hq
  clear hq
  have HAt := Lib.hid (fun k (h : k < (bsL s).size) => bsL_at h)
  obtain ⟨S, hS⟩ : ∃ S, S = bsL s := ⟨_, rfl⟩
  rw [← hS] at HAt hl hz i0 i1 ⊢
  clear hS hE h0 h1 h2 h3
  go_enter Tryd.func18, Tryd.ntmps18
  go_wp2
  have HZ := Lib.hid hz
  have hS9 : S.size ≤ 4294967280 := by omega
  clear hl hz f0 f1 f2 f3 i0 i1
  go_loopw [3] (fun i wr => ∃ k : Nat, k ≤ S.size ∧ i = .int .i64 k ∧ w = wr ∧ ∀ j b, j < k → s[j]? = some b → b ≠ 0 ∧ b ≠ 47) (fun i _ => S.size - (intOf i).toNat)
  case atStart => exact ⟨0, by omega, rfl, rfl, fun j b h => absurd h (by omega)⟩
  case round =>
    obtain ⟨k, hk, rfl, rfl, hall⟩ := hrel
    have HA := Lib.hid hall
    clear hall
    by_cases hi : k < S.size
    · obtain ⟨x, hx⟩ : ∃ x : UInt8, S[k]'hi = x := ⟨_, rfl⟩
      have HX := Lib.hid (show s[k]? = some x by rw [← hx]; exact HAt.out k hi)
      by_cases x0 : x = 0
      · have HF := Lib.hid (show (s.all fun b => decide (b ≠ 0) && decide (b ≠ 47)) = false by
          rw [List.all_eq_false]; exact ⟨x, List.mem_of_getElem? HX.out, by rw [x0]; decide⟩)
        have t0 : ((x.toNat : Int) == 0) = true := by rw [x0]; rfl
        clear x0
        go_wp2
        go_ret
        exact ⟨by rw [HQ.out, HF.out]; rfl, rfl⟩
      · by_cases x1 : x = 47
        · have HF := Lib.hid (show (s.all fun b => decide (b ≠ 0) && decide (b ≠ 47)) = false by
            rw [List.all_eq_false]; exact ⟨x, List.mem_of_getElem? HX.out, by rw [x1]; decide⟩)
          have t0 : ((x.toNat : Int) == 0) = false := by rw [x1]; rfl
          have t1 : ((x.toNat : Int) == 47) = true := by rw [x1]; rfl
          clear x1 x0
          go_wp2
          go_ret
          exact ⟨by rw [HQ.out, HF.out]; rfl, rfl⟩
        · have n0 : ((x.toNat : Int) == 0) = false := by
            rw [beq_eq_false_iff_ne]; intro e; apply x0; apply UInt8.toNat_inj.1; have e2 : x.toNat = 0 := by omega
            rw [e2]; rfl
          have n1 : ((x.toNat : Int) == 47) = false := by
            rw [beq_eq_false_iff_ne]; intro e; apply x1; apply UInt8.toNat_inj.1; have e2 : x.toNat = 47 := by omega
            rw [e2]; rfl
          have HX0 := Lib.hid (And.intro x0 x1)
          clear x0 x1
          go_wp2
          go_roundw
          case rel => exact ⟨k + 1, by omega, by go_num, trivial, fun j b hj hb => by
            by_cases hjk : j = k
            · subst hjk; rw [HX.out] at hb; cases hb; exact HX0.out
            · exact HA.out j b (by omega) hb⟩
          case measure => simp [intOf]; omega
    · obtain rfl : k = S.size := by omega
      have HF := Lib.hid (show (s.all fun b => decide (b ≠ 0) && decide (b ≠ 47)) = true by
        rw [List.all_eq_true]
        intro b hb
        obtain ⟨j, hj⟩ := List.getElem?_of_mem hb
        have q := HA.out j b (by rw [HZ.out]; exact (List.getElem?_eq_some_iff.1 hj).1) hj
        simp [q.1, q.2])
      go_wp2
      go_ret
      exact ⟨by rw [HQ.out, HF.out]; rfl, rfl⟩
theorem rname_at (s : List UInt8) (w : World) (_ : s.length ≤ 4294967280) : Calls Tryd.prog 18 #[.string (bsL s)] w fun e w' => e = .returned (.int .i64 (nmE s)) ∧ w' = w := rname_all s w

end Go.Proofs.YtefiapmgdjlnnaaDoor
