/-
  Layer 4: strings.Repeat (the library's contract, laid at this seat); full.
-/
import Derived.Test.YtdgcninmpcmdcaaGr
import Derived.Test.YtdgcninmpcmdcaaLeW
import Derived.Shelf.Strings.Repeat
import Derived.Ground.NamesProg
import Derived.Lib.Agree
namespace Go.Proofs.Ytdgcninmpcmdcaa
open Go.RowKit Go.Shelf

def LnR.lays_ren : Go.Shelf.Ren := ⟨fun | 105 => 33 | 212 => 52 | 99 => 53 | 165 => 54 | 166 => 55 | 170 => 56 | 169 => 57 | 263 => 73 | 264 => 74 | 206 => 75 | 240 => 76 | 241 => 77 | 276 => 83 | 277 => 84 | n => n, fun | 9 => 9 | 3 => 3 | 4 => 4 | 20 => 20 | 0 => 0 | 46 => 99 | 109 => 100 | 5 => 5 | 72 => 105 | 76 => 109 | 51 => 38 | 146 => 128 | 53 => 49 | 148 => 130 | 70 => 103 | 37 => 23 | 75 => 108 | 127 => 132 | 164 => 136 | 80 => 111 | n => n, fun | n => n⟩
theorem LnR.lays : Go.Proofs.Lays.n105 Try.prog LnR.lays_ren where
  mixed := by kernel_rfl
  f99 := Try.func53.trans (congrArg some (by kernel_rfl))
  f105 := Try.func33.trans (congrArg some (by kernel_rfl))
  f165 := Try.func54.trans (congrArg some (by kernel_rfl))
  f166 := Try.func55.trans (congrArg some (by kernel_rfl))
  f169 := Try.func57.trans (congrArg some (by kernel_rfl))
  f170 := Try.func56.trans (congrArg some (by kernel_rfl))
  f206 := Try.func75.trans (congrArg some (by kernel_rfl))
  f212 := Try.func52.trans (congrArg some (by kernel_rfl))
  f240 := Try.func76.trans (congrArg some (by kernel_rfl))
  f241 := Try.func77.trans (congrArg some (by kernel_rfl))
  f263 := Try.func73.trans (congrArg some (by kernel_rfl))
  f264 := Try.func74.trans (congrArg some (by kernel_rfl))
  f276 := Try.func83.trans (congrArg some (by kernel_rfl))
  f277 := Try.func84.trans (congrArg some (by kernel_rfl))
  t0 := Try.underlying0
  a0 := Try.isAgg0
  z0 := Try.sizeOf0
  v0 := Try.zeroValue0
  t3 := Try.underlying3
  a3 := Try.isAgg3
  z3 := Try.sizeOf3
  v3 := Try.zeroValue3
  t4 := Try.underlying4
  a4 := Try.isAgg4
  z4 := Try.sizeOf4
  v4 := Try.zeroValue4
  t5 := Try.underlying5
  a5 := Try.isAgg5
  z5 := Try.sizeOf5
  v5 := Try.zeroValue5
  t9 := Try.underlying9
  a9 := Try.isAgg9
  z9 := Try.sizeOf9
  v9 := Try.zeroValue9
  t20 := Try.underlying20
  a20 := Try.isAgg20
  z20 := Try.sizeOf20
  v20 := Try.zeroValue20
  t37 := Try.underlying23
  a37 := Try.isAgg23
  z37 := Try.sizeOf23
  v37 := Try.zeroValue23
  t46 := Try.underlying99
  a46 := Try.isAgg99
  z46 := Try.sizeOf99
  v46 := Try.zeroValue99
  t51 := Try.underlying38
  a51 := Try.isAgg38
  z51 := Try.sizeOf38
  v51 := Try.zeroValue38
  t53 := Try.underlying49
  a53 := Try.isAgg49
  z53 := Try.sizeOf49
  v53 := Try.zeroValue49
  t70 := Try.underlying103
  a70 := Try.isAgg103
  z70 := Try.sizeOf103
  v70 := Try.zeroValue103
  t72 := Try.underlying105
  a72 := Try.isAgg105
  z72 := Try.sizeOf105
  v72 := Try.zeroValue105
  t75 := Try.underlying108
  a75 := Try.isAgg108
  z75 := Try.sizeOf108
  v75 := Try.zeroValue108
  t76 := Try.underlying109
  a76 := Try.isAgg109
  z76 := Try.sizeOf109
  v76 := Try.zeroValue109
  t109 := Try.underlying100
  a109 := Try.isAgg100
  z109 := Try.sizeOf100
  v109 := Try.zeroValue100
  t127 := Try.underlying132
  a127 := Try.isAgg132
  z127 := Try.sizeOf132
  v127 := Try.zeroValue132
  t146 := Try.underlying128
  a146 := Try.isAgg128
  z146 := Try.sizeOf128
  v146 := Try.zeroValue128
  t148 := Try.underlying130
  a148 := Try.isAgg130
  z148 := Try.sizeOf130
  v148 := Try.zeroValue130
  t164 := Try.underlying136
  a164 := Try.isAgg136
  z164 := Try.sizeOf136
  v164 := Try.zeroValue136


theorem LnR.extra : Builder.Extra Try.prog LnR.lays_ren where
  sizeBuilder := by kernel_rfl
  liesBuilder := by kernel_rfl
  t5 := LnR.lays.t5
  a5 := LnR.lays.a5
  z5 := LnR.lays.z5
  v5 := LnR.lays.v5
  infoByte := by kernel_rfl
  cellsByte := by kernel_rfl
  sizeByte := by kernel_rfl
  neB5 := by decide
theorem LnR.fRepeat : LnR.lays_ren.f 105 = 33 := by kernel_rfl
set_option maxRecDepth 20000 in
theorem repeat64 (w : World) : Calls Try.prog 33 #[.string ⟨#[0]⟩, .int .i64 64] w fun e w' => e = .returned (.string ⟨(List.replicate 64 (0 : UInt8)).toArray⟩) ∧ Gr [] w w' := by
  have h := Any.strings_Repeat LnR.lays LnR.extra ⟨#[0]⟩ 64 w (by omega) (by decide)
  rw [LnR.fRepeat] at h
  refine h.mono ?_
  rintro e w' ⟨rfl, hb⟩
  exact ⟨rfl, .ofBelow hb⟩
/-- The text of a line: s, noughts behind it, 64 bytes. -/
def fullL (l : List UInt8) : List UInt8 := (l ++ List.replicate 64 0).take 64
def fullS (s : ByteArray) : ByteArray := ⟨(fullL s.data.toList).toArray⟩
theorem fullL_len (l : List UInt8) : (fullL l).length = 64 := by unfold fullL; simp
theorem fullS_size (s : ByteArray) : (fullS s).size = 64 := by show (fullL s.data.toList).toArray.size = 64; rw [List.size_toArray, fullL_len]

theorem extract_full (s : ByteArray) : (s ++ (⟨(List.replicate 64 (0 : UInt8)).toArray⟩ : ByteArray)).extract 0 64 = fullS s := by
  apply ByteArray.ext
  rw [ByteArray.data_extract, ByteArray.data_append]
  apply Array.ext'
  generalize hZ : List.replicate 64 (0 : UInt8) = Z
  have h : ∀ A : Array UInt8, (A.extract 0 64).toList = A.toList.take 64 := fun A => by rw [Array.toList_extract, List.extract_eq_take_drop]; rfl
  rw [h, Array.toList_append]
  show _ = fullL s.data.toList
  unfold fullL
  rw [hZ]
end Go.Proofs.Ytdgcninmpcmdcaa
