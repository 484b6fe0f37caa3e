/-
  Layer 18: what Go's strings package says, at this program.
-/
import Derived.Test.YtnmenihahgggmaaGr
import Derived.Test.YtnmenihahgggmaaRegT
import Derived.Test.YtnmenihahgggmaaPaP
import Derived.Shelf.Strings.Prefix
import Derived.Shelf.Strings.IndexAnyAll
import Derived.Shelf.Strings.Search2
import Derived.Shelf.Strings.OnBuilder
import Derived.Ground.NamesProg
import Derived.Laws.RangeAny
import Derived.Laws.Runes
namespace Go.Proofs.Ytnmenihahgggmaa
open Go.RowKit Go.Shelf

def PaL.pre_ren : Go.Shelf.Ren := ⟨fun | 99 => 16 | 206 => 23 | n => n, fun | 9 => 9 | 4 => 4 | 3 => 3 | n => n, fun | n => n⟩
theorem PaL.pre : Go.Proofs.Lays.n99 Try.prog PaL.pre_ren where
  mixed := by kernel_rfl
  f99 := Try.func16.trans (congrArg some (by kernel_rfl))
  f206 := Try.func23.trans (congrArg some (by kernel_rfl))
  t3 := Try.underlying3
  a3 := Try.isAgg3
  z3 := Try.sizeOf3
  v3 := Try.zeroValue3
  t4 := Try.underlying4
  a4 := Try.isAgg4
  z4 := Try.sizeOf4
  v4 := Try.zeroValue4
  t9 := Try.underlying9
  a9 := Try.isAgg9
  z9 := Try.sizeOf9
  v9 := Try.zeroValue9


def PaL.suf_ren : Go.Shelf.Ren := ⟨fun | 100 => 17 | 207 => 24 | n => n, fun | 9 => 9 | 4 => 4 | 3 => 3 | n => n, fun | n => n⟩
theorem PaL.suf : Go.Proofs.Lays.n100 Try.prog PaL.suf_ren where
  mixed := by kernel_rfl
  f100 := Try.func17.trans (congrArg some (by kernel_rfl))
  f207 := Try.func24.trans (congrArg some (by kernel_rfl))
  t3 := Try.underlying3
  a3 := Try.isAgg3
  z3 := Try.sizeOf3
  v3 := Try.zeroValue3
  t4 := Try.underlying4
  a4 := Try.isAgg4
  z4 := Try.sizeOf4
  v4 := Try.zeroValue4
  t9 := Try.underlying9
  a9 := Try.isAgg9
  z9 := Try.sizeOf9
  v9 := Try.zeroValue9


def PaL.any_ren : Go.Shelf.Ren := ⟨fun | 150 => 27 | 153 => 33 | 152 => 37 | 226 => 38 | 227 => 39 | 228 => 40 | 137 => 47 | 119 => 48 | 224 => 45 | 225 => 44 | 217 => 43 | 266 => 49 | n => n, fun | 9 => 9 | 4 => 4 | 3 => 3 | 5 => 5 | 21 => 21 | 117 => 68 | 116 => 67 | 0 => 0 | 46 => 76 | 124 => 78 | n => n, fun | n => n⟩
theorem PaL.any : Go.Proofs.Lays.n150 Try.prog PaL.any_ren where
  mixed := by kernel_rfl
  f119 := Try.func48.trans (congrArg some (by kernel_rfl))
  f137 := Try.func47.trans (congrArg some (by kernel_rfl))
  f150 := Try.func27.trans (congrArg some (by kernel_rfl))
  f152 := Try.func37.trans (congrArg some (by kernel_rfl))
  f153 := Try.func33.trans (congrArg some (by kernel_rfl))
  f217 := Try.func43.trans (congrArg some (by kernel_rfl))
  f224 := Try.func45.trans (congrArg some (by kernel_rfl))
  f225 := Try.func44.trans (congrArg some (by kernel_rfl))
  f226 := Try.func38.trans (congrArg some (by kernel_rfl))
  f227 := Try.func39.trans (congrArg some (by kernel_rfl))
  f228 := Try.func40.trans (congrArg some (by kernel_rfl))
  f266 := Try.func49.trans (congrArg some (by kernel_rfl))
  t0 := Try.underlying0
  a0 := Try.isAgg0
  z0 := Try.sizeOf0
  v0 := Try.zeroValue0
  t3 := Try.underlying3
  a3 := Try.isAgg3
  z3 := Try.sizeOf3
  v3 := Try.zeroValue3
  t4 := Try.underlying4
  a4 := Try.isAgg4
  z4 := Try.sizeOf4
  v4 := Try.zeroValue4
  t5 := Try.underlying5
  a5 := Try.isAgg5
  z5 := Try.sizeOf5
  v5 := Try.zeroValue5
  t9 := Try.underlying9
  a9 := Try.isAgg9
  z9 := Try.sizeOf9
  v9 := Try.zeroValue9
  t21 := Try.underlying21
  a21 := Try.isAgg21
  z21 := Try.sizeOf21
  v21 := Try.zeroValue21
  t46 := Try.underlying76
  a46 := Try.isAgg76
  z46 := Try.sizeOf76
  v46 := Try.zeroValue76
  t116 := Try.underlying67
  a116 := Try.isAgg67
  z116 := Try.sizeOf67
  t117 := Try.underlying68
  a117 := Try.isAgg68
  z117 := Try.sizeOf68
  v117 := Try.zeroValue68
  t124 := Try.underlying78
  a124 := Try.isAgg78
  z124 := Try.sizeOf78
  v124 := Try.zeroValue78


def PaL.joi_ren : Go.Shelf.Ren := ⟨fun | 156 => 20 | 165 => 28 | 166 => 29 | 169 => 30 | 240 => 34 | 241 => 35 | 276 => 41 | 277 => 42 | n => n, fun | 31 => 22 | 9 => 9 | 3 => 3 | 4 => 4 | 0 => 0 | 20 => 20 | 72 => 54 | 76 => 58 | 70 => 51 | 37 => 52 | 75 => 57 | 127 => 63 | 164 => 71 | 5 => 5 | 80 => 33 | n => n, fun | n => n⟩
theorem PaL.joi : Go.Proofs.Lays.n156 Try.prog PaL.joi_ren where
  mixed := by kernel_rfl
  f156 := Try.func20.trans (congrArg some (by kernel_rfl))
  f165 := Try.func28.trans (congrArg some (by kernel_rfl))
  f166 := Try.func29.trans (congrArg some (by kernel_rfl))
  f169 := Try.func30.trans (congrArg some (by kernel_rfl))
  f240 := Try.func34.trans (congrArg some (by kernel_rfl))
  f241 := Try.func35.trans (congrArg some (by kernel_rfl))
  f276 := Try.func41.trans (congrArg some (by kernel_rfl))
  f277 := Try.func42.trans (congrArg some (by kernel_rfl))
  t0 := Try.underlying0
  a0 := Try.isAgg0
  z0 := Try.sizeOf0
  v0 := Try.zeroValue0
  t3 := Try.underlying3
  a3 := Try.isAgg3
  z3 := Try.sizeOf3
  v3 := Try.zeroValue3
  t4 := Try.underlying4
  a4 := Try.isAgg4
  z4 := Try.sizeOf4
  v4 := Try.zeroValue4
  t9 := Try.underlying9
  a9 := Try.isAgg9
  z9 := Try.sizeOf9
  v9 := Try.zeroValue9
  t20 := Try.underlying20
  a20 := Try.isAgg20
  z20 := Try.sizeOf20
  v20 := Try.zeroValue20
  t31 := Try.underlying22
  a31 := Try.isAgg22
  z31 := Try.sizeOf22
  v31 := Try.zeroValue22
  t37 := Try.underlying52
  a37 := Try.isAgg52
  z37 := Try.sizeOf52
  v37 := Try.zeroValue52
  t70 := Try.underlying51
  a70 := Try.isAgg51
  z70 := Try.sizeOf51
  v70 := Try.zeroValue51
  t72 := Try.underlying54
  a72 := Try.isAgg54
  z72 := Try.sizeOf54
  v72 := Try.zeroValue54
  t75 := Try.underlying57
  a75 := Try.isAgg57
  z75 := Try.sizeOf57
  v75 := Try.zeroValue57
  t76 := Try.underlying58
  a76 := Try.isAgg58
  z76 := Try.sizeOf58
  v76 := Try.zeroValue58
  t127 := Try.underlying63
  a127 := Try.isAgg63
  z127 := Try.sizeOf63
  v127 := Try.zeroValue63
  t164 := Try.underlying71
  a164 := Try.isAgg71
  z164 := Try.sizeOf71
  v164 := Try.zeroValue71


def PaL.idx_ren : Go.Shelf.Ren := ⟨fun | 219 => 36 | 217 => 43 | 225 => 44 | 224 => 45 | 267 => 46 | 266 => 49 | 314 => 50 | n => n, fun | 9 => 9 | 3 => 3 | 4 => 4 | 5 => 5 | 46 => 76 | 146 => 80 | 51 => 79 | n => n, fun | 1 => 0 | n => n⟩
theorem PaL.idx : Go.Proofs.Lays.n219 Try.prog PaL.idx_ren where
  mixed := by kernel_rfl
  f217 := Try.func43.trans (congrArg some (by kernel_rfl))
  f219 := Try.func36.trans (congrArg some (by kernel_rfl))
  f224 := Try.func45.trans (congrArg some (by kernel_rfl))
  f225 := Try.func44.trans (congrArg some (by kernel_rfl))
  f266 := Try.func49.trans (congrArg some (by kernel_rfl))
  f267 := Try.func46.trans (congrArg some (by kernel_rfl))
  f314 := Try.func50.trans (congrArg some (by kernel_rfl))
  t3 := Try.underlying3
  a3 := Try.isAgg3
  z3 := Try.sizeOf3
  v3 := Try.zeroValue3
  t4 := Try.underlying4
  a4 := Try.isAgg4
  z4 := Try.sizeOf4
  v4 := Try.zeroValue4
  t5 := Try.underlying5
  a5 := Try.isAgg5
  z5 := Try.sizeOf5
  v5 := Try.zeroValue5
  t9 := Try.underlying9
  a9 := Try.isAgg9
  z9 := Try.sizeOf9
  v9 := Try.zeroValue9
  t46 := Try.underlying76
  a46 := Try.isAgg76
  z46 := Try.sizeOf76
  v46 := Try.zeroValue76
  t51 := Try.underlying79
  a51 := Try.isAgg79
  z51 := Try.sizeOf79
  v51 := Try.zeroValue79
  t146 := Try.underlying80
  a146 := Try.isAgg80
  z146 := Try.sizeOf80
  v146 := Try.zeroValue80
  g1 := by kernel_rfl


theorem PaL.extra : Builder.Extra Try.prog PaL.joi_ren where
  sizeBuilder := by kernel_rfl
  liesBuilder := by kernel_rfl
  t5 := Try.underlying5
  a5 := Try.isAgg5
  z5 := Try.sizeOf5
  v5 := Try.zeroValue5
  infoByte := by kernel_rfl
  cellsByte := by kernel_rfl
  sizeByte := by kernel_rfl
  neB5 := by decide
theorem PaL.fPre : PaL.pre_ren.f 99 = 16 := by kernel_rfl
theorem PaL.fSuf : PaL.suf_ren.f 100 = 17 := by kernel_rfl
theorem PaL.fJoi : PaL.joi_ren.f 156 = 20 := by kernel_rfl
theorem PaL.fIdx : PaL.idx_ren.f 219 = 36 := by kernel_rfl
theorem PaL.fIby : PaL.any_ren.f 137 = 47 := by kernel_rfl
theorem PaL.fIan : PaL.any_ren.f 153 = 33 := by kernel_rfl
theorem PaL.fUse : PaL.any_ren.f 226 = 38 := by kernel_rfl
theorem PaL.fRun : PaL.any_ren.f 152 = 37 := by kernel_rfl
theorem PaL.h116 : (Try.prog.info? (PaL.any_ren.t 116)).map (fun i => (i.zero, i.size)) = some (some (.agg (Array.replicate 256 (.bool false))), 256) := by kernel_rfl

theorem pre_at (s p : List UInt8) (w : World) : Calls Try.prog 16 #[sv s, sv p] w fun e w' => e = .returned (.bool (Lib.hasPrefix s p)) ∧ w' = w := by
  have q := Any.strings_HasPrefix { PaL.pre with } (bsL s) (bsL p) w
  rw [PaL.fPre] at q
  exact q
theorem suf_at (s p : List UInt8) (w : World) (hs : s.length ≤ 9223372036854775807) : Calls Try.prog 17 #[sv s, sv p] w fun e w' => e = .returned (.bool (Lib.hasSuffix s p)) ∧ w' = w := by
  have q := Any.strings_HasSuffix { PaL.suf with } (bsL s) (bsL p) w hs
  rw [PaL.fSuf] at q
  exact q
theorem join_some (b o c : Nat) (L : List (List UInt8)) (w : World) (hcells : ∀ (j : Nat) x, L[j]? = some x → w.cell? ⟨b, o + j, none⟩ = some (sv x)) (hb : b < w.heap.size) (hN : L.length ≤ 140737488355328) (hcap : L.length ≤ c) (hlen : (joinS L).length ≤ 140737488355328) :
    Calls Try.prog 20 #[.slice (some ⟨b, o, none⟩) L.length c, sv [47]] w fun e w' => e = .returned (sv (joinS L)) ∧ Below w.heap.size w w' := by
  have hm : (L.map bsL).map (·.data.toList) = L := by rw [List.map_map]; exact List.map_id _
  have q := Any.strings_Join { PaL.joi with } PaL.extra b o c (L.map bsL) (bsL [47]) w (fun j x hj => by
    rw [List.getElem?_map] at hj
    cases hL : L[j]? with
    | none => rw [hL] at hj; cases hj
    | some y => rw [hL] at hj; cases hj; exact hcells j y hL) hb (by simpa using hN) (by simpa using hcap) (by rw [hm]; exact hlen)
  rw [PaL.fJoi, hm, List.length_map] at q
  exact q
theorem join_none (a : Option Addr) (c : Nat) (w : World) :
    Calls Try.prog 20 #[.slice a 0 c, sv [47]] w fun e w' => e = .returned (sv []) ∧ Below w.heap.size w w' := by
  have q := Any.strings_Join_none { PaL.joi with } PaL.extra a c (bsL [47]) w
  rw [PaL.fJoi] at q
  exact q.mono fun e w' ⟨h1, h2⟩ => ⟨h1, h2 ▸ Below.refl _ _⟩
theorem idx_at (s : List UInt8) (w : World) : Calls Try.prog 36 #[sv s, sv [47]] w fun e w' => e = .returned (.int .i64 (Lib.indexByte s 47)) ∧ w' = w := by
  have q := Any.stringslite_Index_one { PaL.idx with } (bsL s) 47 w
  rw [PaL.fIdx] at q
  exact q
theorem iby_at (S : ByteArray) (c : Int) (w : World) : Calls Try.prog 47 #[.string S, .int .u8 c] w fun e w' => e = .returned (.int .i64 (Lib.indexByte S.data.toList c.toNat.toUInt8)) ∧ w' = w := by
  have q := Any.strings_IndexByte { PaL.any with } S c w
  rw [PaL.fIby] at q
  exact q
theorem irun_at (S : ByteArray) (r : Int) (w : World) (h0 : 0 ≤ r) (h1 : r < 128) : Calls Try.prog 37 #[.string S, .int .i32 r] w fun e w' => e = .returned (.int .i64 (Lib.indexByte S.data.toList r.toNat.toUInt8)) ∧ w' = w := by
  have q := Any.strings_IndexRune_ascii { PaL.any with } S r w h0 h1
  rw [PaL.fRun] at q
  exact q
theorem iuse_at (n : Int) (w : World) : Calls Try.prog 38 #[.int .i64 n] w fun e w' => e = .returned (.bool (decide (8 < n))) ∧ w' = w := by
  have q := Any.strings_shouldUseASCIISet { PaL.any with } n w
  rw [PaL.fUse] at q
  exact q
theorem ian_long (s : List UInt8) (w : World) (h8 : 8 < s.length) (hs : s.length < 4294967281) :
    Calls Try.prog 33 #[sv s, sv [0, 47]] w fun e w' => e = .returned (.int .i64 (Lib.indexAny s [0, 47])) ∧ Below w.heap.size w w' := by
  have q := Any.strings_IndexAny_long { PaL.any with } (zero_of_info PaL.h116).1 (zero_of_info PaL.h116).2 (bsL s) (bsL [0, 47]) w (by decide) h8 hs (by decide) (fun j b hj => by
    have : b ∈ [(0 : UInt8), 47] := List.mem_of_getElem? hj
    simp at this
    rcases this with rfl | rfl <;> decide)
  rw [PaL.fIan] at q
  refine q.mono fun e w' ⟨h1, h2⟩ => ⟨h1, ?_⟩
  rw [h2]
  exact ((Below.refl _ _).alloc (Nat.le_refl _) _).alloc (by simp) _

end Go.Proofs.Ytnmenihahgggmaa
