/-
  DqAd: CrcPure, DiP, DiA, DiE, DiJ.
-/
import Derived.Test.YtefiapmgdjlnnaaDoorDnAa
import Derived.Test.YtefiapmgdjlnnaaDoorDnAb
import Derived.Test.YtefiapmgdjlnnaaDoorDnAc
import Derived.Test.YtefiapmgdjlnnaaDoorDnAd
import Derived.Test.YtefiapmgdjlnnaaDoorDnAe
import Derived.Test.YtefiapmgdjlnnaaDoorDnAf
import Derived.Test.YtefiapmgdjlnnaaDoorDnAg
import Derived.Test.YtefiapmgdjlnnaaDoorDnAh
import Derived.Test.YtefiapmgdjlnnaaDoorDnAi
import Derived.Test.YtefiapmgdjlnnaaDoorDqAa
import Derived.Test.YtefiapmgdjlnnaaDoorDqAb
import Derived.Test.YtefiapmgdjlnnaaDoorDqAc
import Derived.WalkKit
import Derived.StillTailTactics
import Derived.Lib.Join
import Derived.Lib.Strings
import Derived.Lib.Bytealg
import Derived.Shelf.Strings.Prefix
import Derived.Shelf.Strings.IndexAnyAll
import Derived.Shelf.Strings.Search2
import Derived.Shelf.Strings.OnBuilder
import Derived.Ground.NamesProg
import Derived.Laws.RangeAny
import Derived.Laws.Runes
import Derived.Laws.RangeString
import Derived.Laws.Strings3
import Derived.Deep.LoopGhost
import Derived.Lib.Hide
import Derived.WalkMore
import Derived.Deep.QuietTactic
import Derived.BigQuiet
import Derived.Maps.RangeWalk
import Derived.Maps.OwnSet
import Derived.Lib.AppendStr
import Derived.Deep.RegionHeld3
import Derived.Deep.CutBlock
import Derived.Shelf.Strconv.Itoa3
import Derived.Test.YtefiapmgdjlnnaaDoorRows
import Derived.ProofKit
import Derived.OpenShut
import Derived.SizedLaws
import Derived.Shelf.SlSortCmp.WholeK
import Derived.Ground.SlsfProg
import Derived.Laws.Cover1

set_option linter.unusedVariables false

/-
  Plain lemmas on the two checksums, without any program: the register as a bit vector, and as a list of bits.
-/
namespace Go.Proofs.YtefiapmgdjlnnaaDoor

/-! ### The registers, one bit out and eight -/
/-! ### Linear -/
theorem xor3 {n : Nat} (a b c d : BitVec n) : (a ^^^ b) ^^^ (c ^^^ d) = (a ^^^ c) ^^^ (b ^^^ d) := by
  simp only [BitVec.xor_assoc]
  congr 1
  rw [← BitVec.xor_assoc, BitVec.xor_comm b c, BitVec.xor_assoc]
theorem ite_xor {n : Nat} (a b : Bool) (p : BitVec n) : (if (a ^^ b) = true then p else 0#n) = (if a = true then p else 0#n) ^^^ (if b = true then p else 0#n) := by
  cases a <;> cases b <;> simp
theorem s16_xor (x y : BitVec 16) : s16 (x ^^^ y) = s16 x ^^^ s16 y := by
  unfold s16
  rw [BitVec.shiftLeft_xor_distrib, BitVec.msb_xor, ite_xor, xor3]
theorem byte16_xor (a b : UInt8) : BitVec.ofNat 16 (a ^^^ b).toNat = BitVec.ofNat 16 a.toNat ^^^ BitVec.ofNat 16 b.toNat := by
  apply BitVec.eq_of_toNat_eq
  rw [BitVec.toNat_xor]
  have ha := a.toNat_lt
  have hb := b.toNat_lt
  have hx : a.toNat ^^^ b.toNat < 2 ^ 8 := Nat.xor_lt_two_pow ha hb
  simp only [BitVec.toNat_ofNat, UInt8.toNat_xor]
  rw [Nat.mod_eq_of_lt (by omega), Nat.mod_eq_of_lt (by omega), Nat.mod_eq_of_lt (by omega)]
theorem b16_xor (x y : BitVec 16) (a b : UInt8) : b16 (x ^^^ y) (a ^^^ b) = b16 x a ^^^ b16 y b := by
  unfold b16
  rw [byte16_xor, BitVec.shiftLeft_xor_distrib, xor3]
  simp only [s16_xor]
/-- Three texts of one length, byte by byte. -/
def mix3 : List UInt8 → List UInt8 → List UInt8 → List UInt8
  | a :: l, b :: m, c :: n => (a ^^^ b ^^^ c) :: mix3 l m n
  | _, _, _ => []
/-! ### One to one -/
end Go.Proofs.YtefiapmgdjlnnaaDoor

/-
  Layer 17 (dir), pure: names, the buckets they fall into, how many fall into each.
-/
namespace Go.Proofs.YtefiapmgdjlnnaaDoor
open Go.RowKit

/-! ### Rows as functions -/
/-! ### Buckets -/
/-- The list behind a Drop. -/
def dropN (N : List ByteArray) (s : ByteArray) : List ByteArray := N.filter fun y => decide (y ≠ s)
section
variable {F : ByteArray → Option Nat} {N M : List ByteArray}
theorem mem_dropN {y s : ByteArray} : y ∈ dropN N s ↔ y ∈ N ∧ y ≠ s := by unfold dropN; rw [List.mem_filter]; simp
theorem NmOk.drop (h : NmOk F N) (s : ByteArray) : NmOk (updT F s none) (dropN N s) := by
  refine ⟨h.nd.filter _, fun y => ?_, fun y hy => h.nm y (mem_dropN.1 hy).1, fun y u e => ?_⟩
  · rw [mem_dropN, h.mem y]
    unfold updT
    by_cases e : y = s
    · subst e; simp
    · simp [e]
  · unfold updT at e
    split at e
    · cases e
    · exact h.hi y u e
theorem NmOk.cons_drop (h : NmOk F N) (s : ByteArray) (hs : (F s).isSome = true) : N.Perm (s :: dropN N s) := by
  have hm := (h.mem s).2 hs
  refine (List.perm_ext_iff_of_nodup h.nd (List.nodup_cons.2 ⟨fun e => (mem_dropN.1 e).2 rfl, h.nd.filter _⟩)).2 fun y => ?_
  rw [List.mem_cons, mem_dropN]
  by_cases e : y = s
  · subst e; simp [hm]
  · simp [e]
theorem cntB_drop (h : NmOk F N) (nb i : Nat) (s : ByteArray) (hs : (F s).isSome = true) : cntB nb i (dropN N s) = if hB s % nb = i then cntB nb i N - 1 else cntB nb i N := by
  have hp := cntB_perm (h.cons_drop s hs) nb i
  rw [cntB_cons] at hp
  by_cases c : hB s % nb = i
  · rw [if_pos c] at hp ⊢; omega
  · rw [if_neg c] at hp ⊢; omega
end
end Go.Proofs.YtefiapmgdjlnnaaDoor

/-
  Layer 17 (dir): a directory in memory; the bucket of a name.
-/
namespace Go.Proofs.YtefiapmgdjlnnaaDoor
open Go.RowKit
set_option linter.unusedVariables false

section
variable {w w' : World} {A : DiA} {F G : ByteArray → Option Nat} {N M : List ByteArray} {ab nb : Nat} {mb : Nat → Nat} {bs : List Nat}
theorem BkD.drop {i0 : Nat} (h : BkD w ab nb mb F N) (hk : NmOk F N) (g : Gr [mb i0] w w') (s : ByteArray) (hi0 : i0 = hB s % nb) (h0 : i0 < nb) (hs : (F s).isSome = true)
    (hm : MapT niE 9 w' (mb i0) (if (atB nb i0 F s).isSome then cntB nb i0 N - 1 else cntB nb i0 N) (updT (atB nb i0 F) s none)) : BkD w' ab nb mb (updT F s none) (dropN N s) := by
  subst hi0
  refine ⟨Nat.lt_of_lt_of_le h.lt g.size, fun i hi => (World.cell?_of_block (w := w) (g.block ab h.lt fun e => h.na _ h0 (List.mem_singleton.1 e).symm)).trans (h.at' i hi), fun i hi => ?_, h.ne, h.na⟩
  rw [atB_upd, cntB_drop hk _ _ _ hs]
  rw [atB_own, if_pos hs] at hm
  by_cases c : hB s % nb = i
  · subst c
    rw [if_pos rfl, if_pos rfl]; exact hm
  · rw [if_neg c, if_neg c]
    exact (h.mp i hi).gr g fun e => c (h.ne _ _ hi h0 (List.mem_singleton.1 e)).symm
end
end Go.Proofs.YtefiapmgdjlnnaaDoor

/-
  Layer 17 (dir): Put, Drop.
-/
namespace Go.Proofs.YtefiapmgdjlnnaaDoor
open Go.RowKit
set_option linter.unusedVariables false

section
variable {w : World} {A : DiA} {F : ByteArray → Option Nat} {N : List ByteArray}
set_option maxHeartbeats 4000000 in
set_option maxRecDepth 100000 in
theorem dput_num (db : Nat) (s : ByteArray) (n : Int) (hn : nameP s.data.toList = true) (hv : ¬ (0 ≤ n ∧ n ≤ 65535)) : Calls Tryd.prog 9 #[.pointer (some ⟨db, 0, none⟩), .string s, .int .i64 n] w fun e w' => e = .returned (.int .i64 2) ∧ Gr [] w w' := by
  have HN := Lib.hid (fun W => dname_str s W)
  have e : nmE s.data.toList = 0 := by unfold nmE; rw [hn]; rfl
  rw [e] at HN
  have HM := Lib.hid (fun W => num17 n W)
  rw [decide_eq_false hv] at HM
  clear hn e hv
  go_enter Tryd.func9, Tryd.ntmps9
  go_wp2_with fail
  refine (HN.out _).mono ?_
  rintro e w2 ⟨rfl, b2⟩
  have HG := Lib.hid (Gr.ofBelow (cs := []) b2)
  clear b2
  go_wp2_with fail
  refine (HM.out _).mono ?_
  rintro e w3 ⟨rfl, rfl⟩
  go_wp2_with fail
  go_ret
  exact ⟨rfl, HG.out⟩
set_option maxHeartbeats 8000000 in
set_option maxRecDepth 100000 in
theorem ddrop_ok (h : DiIs w A F N) (s : ByteArray) (hs : s.size ≤ maxLen) (hn : (F s).isSome = true) : Calls Tryd.prog 11 #[.pointer (some ⟨A.db, 0, none⟩), .string s] w fun e w' => e = .returned (.int .i64 0) ∧ DiIs w' A (updT F s none) (dropN N s) ∧ Gr A.all w w' := by
  have undStr := Tryd.underlying9
  have undMap : Tryd.prog.underlying 59 = some (.map 9 3) := Tryd.underlying59
  have HB := Lib.hid (h.bucket s hs)
  obtain ⟨i0, hi0⟩ : ∃ i, i = hB s % A.nb := ⟨_, rfl⟩
  have hin : i0 < A.nb := by rw [hi0]; exact Nat.mod_lt _ (by have := h.nb.1; omega)
  rw [← hi0] at HB
  have HV := Lib.hid (show Value.tuple #[niE.val ((atB A.nb i0 F s).getD niE.zero), .bool (atB A.nb i0 F s).isSome] = .tuple #[.int .i64 (((F s).getD 0 : Nat) : Int), .bool true] from by rw [hi0, atB_own, hn]; rfl)
  have HS := Lib.hid (show WfT s from hs)
  have HH := Lib.hid h
  have HI := Lib.hid (And.intro hi0 hin)
  have HL := Lib.hid (show (dropN N s).length + 1 = N.length from by
    have := (h.ok.cons_drop s hn).length_eq
    simp only [List.length_cons] at this
    omega)
  have HN := Lib.hid hn
  clear h hi0 hin hn
  go_enter Tryd.func11, Tryd.ntmps11
  go_wp2_with fail
  refine HB.out.mono ?_
  rintro e w2 ⟨rfl, g2⟩
  have H2 := Lib.hid (And.intro (HH.out.gr0 g2) g2)
  have HP := Lib.hid (H2.out.1.bk.mp i0 HI.out.2)
  clear g2 HB
  go_upto_region 7 with (at_lookup; refine wp_lookT_oks rfl _ _ rfl rfl HP.out undStr undMap s rfl HS.out _ HV.out ?_)
  go_upto_region 8 with (at_delete; refine wp_delT rfl _ _ rfl rfl HP.out undStr undMap s rfl HS.out ?_; intro w5 M5 G5 hs5)
  have H5 := Lib.hid (show BkD w5 A.ab A.nb A.mb (updT F s none) (dropN N s) ∧ Holds w5 A.db #[.slice (some ⟨A.ab, 0, none⟩) A.nb A.cap, .int .i64 (N.length : Int)] 65 ∧ Gr A.all w w5 from by
    have hin := HI.out.2
    refine ⟨H2.out.1.bk.drop HH.out.ok G5 s HI.out.1 hin HN.out M5, H2.out.1.hd.gr G5 fun e => ?_, (Gr.of0 H2.out.2).trans (G5.mono fun x hx => ?_)⟩
    · rw [List.mem_singleton] at e
      exact HH.out.nd.2 i0 hin e.symm
    · rw [List.mem_singleton] at hx
      subst hx
      exact DiA.mem_mb hin)
  clear M5 G5 hs5 HP HV H2
  have c1 := H5.out.2.1.cell 1
  have f1 := H5.out.2.1.frozen 1
  have u1 : IntKind.i64.wrap ((N.length : Int) - 1) = (((dropN N s).length : Nat) : Int) := by have := HL.out; have := HH.out.nb; rw [show (N.length : Int) - 1 = (((dropN N s).length : Nat) : Int) by omega]; exact IntWalk.i64_in _ (by omega)
  have H6 := Lib.hid (show DiIs (w5.setCell ⟨A.db, 1, none⟩ (.int .i64 (((dropN N s).length : Nat) : Int))) A (updT F s none) (dropN N s) ∧ Gr A.all w (w5.setCell ⟨A.db, 1, none⟩ (.int .i64 (((dropN N s).length : Nat) : Int))) from by
    have g : Gr [A.db] w5 (w5.setCell ⟨A.db, 1, none⟩ (.int .i64 (((dropN N s).length : Nat) : Int))) := (Gr.refl _ _).setCell (p := ⟨A.db, 1, none⟩) (.inl (List.mem_singleton.2 rfl)) _
    refine ⟨⟨?_, H5.out.1.gr g (fun e => HH.out.nd.1 (List.mem_singleton.1 e).symm) fun i hi e => HH.out.nd.2 i hi (List.mem_singleton.1 e), HH.out.ok.drop s, HH.out.nd, HH.out.nb.1, HH.out.nb.2.1, by have := HH.out.nb; have := HL.out; omega⟩, H5.out.2.2.trans (g.mono fun x hx => ?_)⟩
    · have r := H5.out.2.1.set 1 (.int .i64 (((dropN N s).length : Nat) : Int))
      simpa using r
    · rw [List.mem_singleton] at hx
      subst hx
      simp [DiA.all])
  go_wp2_with fail
  go_ret
  exact ⟨rfl, H6.out⟩
end
end Go.Proofs.YtefiapmgdjlnnaaDoor

/-
  Layer 17 (dir): entries are sorted by their names.
-/
namespace Go.Proofs.YtefiapmgdjlnnaaDoor
open Go.RowKit Go.Shelf
set_option linter.unusedVariables false

def DiJ.srt_ren : Go.Shelf.Ren := ⟨fun | 6 => 34 | 15 => 44 | 14 => 43 | 28 => 62 | 29 => 63 | 20 => 54 | 21 => 55 | 22 => 56 | 23 => 57 | 24 => 58 | 25 => 59 | 26 => 60 | 27 => 61 | 46 => 73 | 47 => 74 | 48 => 75 | 49 => 76 | 50 => 77 | 57 => 85 | n => n, fun | 22 => 49 | 24 => 44 | 25 => 76 | 3 => 3 | 39 => 84 | 0 => 0 | 53 => 104 | 55 => 73 | 4 => 4 | 46 => 98 | 45 => 97 | 50 => 37 | 5 => 5 | 9 => 9 | 66 => 115 | 70 => 119 | 76 => 126 | 77 => 127 | n => n, fun | n => n⟩
theorem DiJ.srt : Go.Proofs.SlLaysF0.n6 Tryd.prog DiJ.srt_ren where
  mixed := by kernel_rfl
  f6 := ⟨ "slices.SortFunc[[]gabion/dir.Entry,gabion/dir.Entry]", by decide, Tryd.func34.trans (congrArg some (by kernel_rfl))⟩
  f14 := ⟨ "slices.pdqsortCmpFunc[gabion/dir.Entry]", by decide, Tryd.func43.trans (congrArg some (by kernel_rfl))⟩
  f15 := Tryd.func44.trans (congrArg some (by kernel_rfl))
  f20 := ⟨ "slices.insertionSortCmpFunc[gabion/dir.Entry]", by decide, Tryd.func54.trans (congrArg some (by kernel_rfl))⟩
  f21 := ⟨ "slices.heapSortCmpFunc[gabion/dir.Entry]", by decide, Tryd.func55.trans (congrArg some (by kernel_rfl))⟩
  f22 := ⟨ "slices.breakPatternsCmpFunc[gabion/dir.Entry]", by decide, Tryd.func56.trans (congrArg some (by kernel_rfl))⟩
  f23 := ⟨ "slices.choosePivotCmpFunc[gabion/dir.Entry]", by decide, Tryd.func57.trans (congrArg some (by kernel_rfl))⟩
  f24 := ⟨ "slices.reverseRangeCmpFunc[gabion/dir.Entry]", by decide, Tryd.func58.trans (congrArg some (by kernel_rfl))⟩
  f25 := ⟨ "slices.partialInsertionSortCmpFunc[gabion/dir.Entry]", by decide, Tryd.func59.trans (congrArg some (by kernel_rfl))⟩
  f26 := ⟨ "slices.partitionEqualCmpFunc[gabion/dir.Entry]", by decide, Tryd.func60.trans (congrArg some (by kernel_rfl))⟩
  f27 := ⟨ "slices.partitionCmpFunc[gabion/dir.Entry]", by decide, Tryd.func61.trans (congrArg some (by kernel_rfl))⟩
  f28 := Tryd.func62.trans (congrArg some (by kernel_rfl))
  f29 := Tryd.func63.trans (congrArg some (by kernel_rfl))
  f46 := ⟨ "slices.siftDownCmpFunc[gabion/dir.Entry]", by decide, Tryd.func73.trans (congrArg some (by kernel_rfl))⟩
  f47 := Tryd.func74.trans (congrArg some (by kernel_rfl))
  f48 := Tryd.func75.trans (congrArg some (by kernel_rfl))
  f49 := ⟨ "slices.medianAdjacentCmpFunc[gabion/dir.Entry]", by decide, Tryd.func76.trans (congrArg some (by kernel_rfl))⟩
  f50 := ⟨ "slices.medianCmpFunc[gabion/dir.Entry]", by decide, Tryd.func77.trans (congrArg some (by kernel_rfl))⟩
  f57 := ⟨ "slices.order2CmpFunc[gabion/dir.Entry]", by decide, Tryd.func85.trans (congrArg some (by kernel_rfl))⟩
  t0 := Tryd.underlying0
  a0 := Tryd.isAgg0
  z0 := Tryd.sizeOf0
  v0 := Tryd.zeroValue0
  t3 := Tryd.underlying3
  a3 := Tryd.isAgg3
  z3 := Tryd.sizeOf3
  v3 := Tryd.zeroValue3
  t4 := Tryd.underlying4
  a4 := Tryd.isAgg4
  z4 := Tryd.sizeOf4
  v4 := Tryd.zeroValue4
  t5 := Tryd.underlying5
  a5 := Tryd.isAgg5
  z5 := Tryd.sizeOf5
  v5 := Tryd.zeroValue5
  t9 := Tryd.underlying9
  a9 := Tryd.isAgg9
  z9 := Tryd.sizeOf9
  v9 := Tryd.zeroValue9
  t22 := Tryd.underlying49
  a22 := Tryd.isAgg49
  z22 := Tryd.sizeOf49
  v22 := Tryd.zeroValue49
  t25 := Tryd.underlying76
  a25 := Tryd.isAgg76
  z25 := Tryd.sizeOf76
  v25 := Tryd.zeroValue76
  t39 := Tryd.underlying84
  a39 := Tryd.isAgg84
  z39 := Tryd.sizeOf84
  v39 := Tryd.zeroValue84
  t45 := Tryd.underlying97
  a45 := Tryd.isAgg97
  z45 := Tryd.sizeOf97
  v45 := Tryd.zeroValue97
  t46 := Tryd.underlying98
  a46 := Tryd.isAgg98
  z46 := Tryd.sizeOf98
  v46 := Tryd.zeroValue98
  t50 := Tryd.underlying37
  a50 := Tryd.isAgg37
  z50 := Tryd.sizeOf37
  v50 := Tryd.zeroValue37
  t53 := Tryd.underlying104
  a53 := Tryd.isAgg104
  z53 := Tryd.sizeOf104
  v53 := Tryd.zeroValue104
  t55 := Tryd.underlying73
  a55 := Tryd.isAgg73
  z55 := Tryd.sizeOf73
  v55 := Tryd.zeroValue73
  t66 := Tryd.underlying115
  a66 := Tryd.isAgg115
  z66 := Tryd.sizeOf115
  v66 := Tryd.zeroValue115
  t70 := Tryd.underlying119
  a70 := Tryd.isAgg119
  z70 := Tryd.sizeOf119
  v70 := Tryd.zeroValue119
  t76 := Tryd.underlying126
  a76 := Tryd.isAgg126
  z76 := Tryd.sizeOf126
  v76 := Tryd.zeroValue126
  t77 := Tryd.underlying127
  a77 := Tryd.isAgg127
  z77 := Tryd.sizeOf127
  v77 := Tryd.zeroValue127
theorem DiJ.fSrt : DiJ.srt_ren.f 6 = 34 := rfl
/-- How two texts compare. -/
def cmpT (x y : ByteArray) : Int := if x.data.toList < y.data.toList then -1 else if x = y then 0 else 1
theorem cmpT_neg (x y : ByteArray) : decide (cmpT x y < 0) = Go.Sort.ltStr x.data.toList y.data.toList := by
  unfold cmpT Go.Sort.ltStr
  by_cases h : x.data.toList < y.data.toList
  · simp [h]
  · by_cases e : x = y
    · subst e; simp [h]
    · simp [h, e]
set_option maxRecDepth 100000 in
theorem isnan_any (x : ByteArray) (W : World) : Calls Tryd.prog 45 #[.string x] W fun e w' => e = .returned (.bool false) ∧ w' = W := by
  go_enter Tryd.func45, Tryd.ntmps45
  go_wp2_with fail
  go_ret
  exact ⟨rfl, rfl⟩
set_option maxRecDepth 100000 in
theorem cmps_any (x y : ByteArray) (W : World) : Calls Tryd.prog 36 #[.string x, .string y] W fun e w' => e = .returned (.int .i64 (cmpT x y)) ∧ w' = W := by
  have HX := Lib.hid (isnan_any x W)
  have HY := Lib.hid (isnan_any y W)
  have hb : Op.bytesLess x.toList y.toList = decide (x.data.toList < y.data.toList) := by rw [bytesLess_eq, Lib.toList_data, Lib.toList_data]
  by_cases h : x.data.toList < y.data.toList
  · have hc : cmpT x y = -1 := if_pos h
    rw [decide_eq_true h] at hb
    rw [hc]
    clear h hc
    go_enter Tryd.func36, Tryd.ntmps36
    go_wp2_with fail
    refine HX.out.mono ?_
    rintro e w2 ⟨rfl, rfl⟩
    go_wp2_with fail
    refine HY.out.mono ?_
    rintro e w3 ⟨rfl, rfl⟩
    go_wp2_with fail
    go_ret
    exact ⟨rfl, rfl⟩
  · rw [decide_eq_false h] at hb
    by_cases e : x = y
    · subst e
      have hc : cmpT x x = 0 := by unfold cmpT; rw [if_neg h, if_pos rfl]
      rw [hc]
      clear h hc
      go_enter Tryd.func36, Tryd.ntmps36
      go_wp2_with fail
      refine HX.out.mono ?_
      rintro e w2 ⟨rfl, rfl⟩
      go_wp2_with fail
      refine HY.out.mono ?_
      rintro e w3 ⟨rfl, rfl⟩
      go_wp2_with fail
      go_ret
      exact ⟨rfl, rfl⟩
    · have he : (x.toList == y.toList) = false := by
        rw [Lib.toList_data, Lib.toList_data, beq_eq_false_iff_ne]
        exact fun q => e (seq17 q)
      have hc : cmpT x y = 1 := by unfold cmpT; rw [if_neg h, if_neg e]
      rw [hc]
      clear h hc e
      go_enter Tryd.func36, Tryd.ntmps36
      go_wp2_with fail
      refine HX.out.mono ?_
      rintro e w2 ⟨rfl, rfl⟩
      go_wp2_with fail
      refine HY.out.mono ?_
      rintro e w3 ⟨rfl, rfl⟩
      go_wp2_with fail
      go_ret
      exact ⟨rfl, rfl⟩
/-- An entry's two cells. -/
def encE (x : ByteArray × Nat) : List Value := [.string x.1, .int .i64 (x.2 : Int)]
def cmpE (x y : ByteArray × Nat) : Int := cmpT x.1 y.1
theorem ltOf_cmpE (x y : ByteArray × Nat) : ltOf cmpE x y = Go.Sort.ltStr x.1.data.toList y.1.data.toList := cmpT_neg _ _
theorem swoE : Go.Sort.SWO (ltOf cmpE) where
  irrefl x := by rw [ltOf_cmpE]; exact Go.Sort.swo_ltStr.irrefl _
  trans x y z h1 h2 := by rw [ltOf_cmpE] at *; exact Go.Sort.swo_ltStr.trans _ _ _ h1 h2
  ntrans x y z h1 h2 := by rw [ltOf_cmpE] at *; exact Go.Sort.swo_ltStr.ntrans _ _ _ h1 h2
set_option maxRecDepth 100000 in
theorem closE (x y : ByteArray × Nat) (W : World) : Calls Tryd.prog 35 #[.agg #[.string x.1, .int .i64 (x.2 : Int)], .agg #[.string y.1, .int .i64 (y.2 : Int)]] W fun e w' => e = .returned (.int .i64 (cmpE x y)) ∧ ∃ q os', w' = Go.Sort.grow (W.drewN q) os' := by
  have hcon := fun W' => cmps_any x.1 y.1 W'
  unfold cmpE
  generalize cmpT x.1 y.1 = r at hcon ⊢
  go_enter Tryd.func35, Tryd.ntmps35
  go_wp2_with (go_at_call 36; refine (hcon _).mono ?_; rintro e w' ⟨rfl, rfl⟩)
  go_ret
  exact ⟨rfl, 0, _, by rw [Go.Sort.alloc_eq_grow, Go.Sort.alloc_eq_grow, Go.Sort.grow_grow]; rfl⟩
theorem gr_sorted (w : World) (g n : Nat) (d : Array (ByteArray × Nat)) (os : Array Obj) : Gr [g] w (sortWorldK encE 2 w g 0 n d os) := by
  refine ⟨rfl, rfl, rfl, ?_, fun k hk hn => ?_⟩
  · show w.heap.size ≤ ((Go.Sort.putRowK encE 2 (Go.Sort.ahead w n) g 0 d).heap ++ os).size
    rw [Array.size_append, Go.Sort.size_putRowK]
    exact Nat.le_add_right _ _
  · have hs : k < (Go.Sort.putRowK encE 2 (Go.Sort.ahead w n) g 0 d).heap.size := by rw [Go.Sort.size_putRowK]; exact hk
    show ((Go.Sort.putRowK encE 2 (Go.Sort.ahead w n) g 0 d).heap ++ os)[k]? = w.heap[k]?
    rw [Array.getElem?_append_left hs]
    show (w.heap.modify g _)[k]? = w.heap[k]?
    rw [Array.getElem?_modify, if_neg fun e => hn (by rw [e]; simp)]
theorem sortE (g cap : Nat) (d : Array (ByteArray × Nat)) (w : World) (hH : Go.Sort.HoldsK encE 2 w g 0 d) (hg : g < w.heap.size) (hsz : d.size < 4611686018427387904) :
    Calls Tryd.prog 34 #[.slice (some ⟨g, 0, none⟩) d.size cap, .func (.func 35) #[] #[]] w fun e w' => e = .returned (.tuple #[]) ∧ ∃ d' : Array (ByteArray × Nat), d'.size = d.size ∧ d'.toList.Perm d.toList ∧ d'.toList.Pairwise (fun x y => ¬ y.1.data.toList < x.1.data.toList) ∧ Go.Sort.HoldsK encE 2 w' g 0 d' ∧ Gr [g] w w' := by
  have eg : ∀ args w, (callFunc 35 args).run Tryd.prog w = .ok (.enter 35 args) w := enters_of Tryd.func35 (by kernel_rfl) rfl
  have h := AnyQ.slices_SortFunc DiJ.srt 2 Tryd.isAgg44 Tryd.sizeOf44 encE (fun _ => rfl) (fun x v hv => by simp [encE] at hv; rcases hv with rfl | rfl <;> rfl) cmpE swoE 35 #[] g 0 cap d w eg (fun _ _ _ _ x y => closE x y _) hH hg hsz
  rw [DiJ.fSrt] at h
  refine h.mono ?_
  rintro e w' ⟨rfl, d', n, os, hp, hs, rfl⟩
  obtain ⟨h1, h2, h3⟩ := hp
  refine ⟨rfl, d', h1, ?_, ?_, ?_, gr_sorted _ _ _ _ _⟩
  · have e1 : d'.extract 0 d.size = d' := by rw [← h1]; simp
    have e2 : d.extract 0 d.size = d := by simp
    rw [e1, e2] at h3
    exact h3
  · rw [List.pairwise_iff_getElem]
    intro i j hi hj hij
    have hi' : i < d'.size := by simpa using hi
    have hj' : j < d'.size := by simpa using hj
    have := hs i j (Nat.zero_le _) hij (by rw [← h1]; exact hj')
    rw [ltOf_cmpE] at this
    rw [getElem!_pos d' i hi', getElem!_pos d' j hj'] at this
    simpa [Go.Sort.ltStr] using this
  · exact Go.Sort.holdsK_grow encE 2 (Go.Sort.putRowK encE 2 (Go.Sort.ahead w n) g 0 d') os g 0 d' (by rw [Go.Sort.size_putRowK]; exact hg) (Go.Sort.holdsK_putRowK encE 2 (Go.Sort.ahead w n) g 0 d d' hH h1)
end Go.Proofs.YtefiapmgdjlnnaaDoor
