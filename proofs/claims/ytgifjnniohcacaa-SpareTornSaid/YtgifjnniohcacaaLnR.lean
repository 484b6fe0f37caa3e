/-
  Layer 4: strings.Repeat (the library's contract, laid at this seat); full.
-/
import Derived.Test.YtgifjnniohcacaaGr
import Derived.Test.YtgifjnniohcacaaLeW
import Derived.Shelf.Strings.Repeat
import Derived.Ground.NamesProg
import Derived.Lib.Agree
namespace Go.Proofs.Ytgifjnniohcacaa
open Go.RowKit Go.Shelf

def LnR.lays_ren : Go.Shelf.Ren := ⟨fun | 105 => 42 | 212 => 57 | 99 => 58 | 165 => 59 | 166 => 60 | 170 => 61 | 169 => 62 | 263 => 72 | 264 => 73 | 206 => 74 | 240 => 75 | 241 => 76 | 276 => 90 | 277 => 91 | n => n, fun | 9 => 9 | 3 => 3 | 4 => 4 | 20 => 20 | 0 => 0 | 46 => 106 | 109 => 107 | 5 => 5 | 72 => 112 | 76 => 115 | 51 => 133 | 146 => 134 | 53 => 47 | 148 => 136 | 70 => 110 | 37 => 49 | 75 => 114 | 127 => 138 | 164 => 146 | 80 => 117 | n => n, fun | n => n⟩
theorem LnR.lays : Go.Proofs.Lays.n105 Try.prog LnR.lays_ren where
  mixed := by kernel_rfl
  f99 := Try.func58.trans (congrArg some (by kernel_rfl))
  f105 := Try.func42.trans (congrArg some (by kernel_rfl))
  f165 := Try.func59.trans (congrArg some (by kernel_rfl))
  f166 := Try.func60.trans (congrArg some (by kernel_rfl))
  f169 := Try.func62.trans (congrArg some (by kernel_rfl))
  f170 := Try.func61.trans (congrArg some (by kernel_rfl))
  f206 := Try.func74.trans (congrArg some (by kernel_rfl))
  f212 := Try.func57.trans (congrArg some (by kernel_rfl))
  f240 := Try.func75.trans (congrArg some (by kernel_rfl))
  f241 := Try.func76.trans (congrArg some (by kernel_rfl))
  f263 := Try.func72.trans (congrArg some (by kernel_rfl))
  f264 := Try.func73.trans (congrArg some (by kernel_rfl))
  f276 := Try.func90.trans (congrArg some (by kernel_rfl))
  f277 := Try.func91.trans (congrArg some (by kernel_rfl))
  t0 := Try.underlying0
  a0 := Try.isAgg0
  z0 := Try.sizeOf0
  v0 := Try.zeroValue0
  t3 := Try.underlying3
  a3 := Try.isAgg3
  z3 := Try.sizeOf3
  v3 := Try.zeroValue3
  t4 := Try.underlying4
  a4 := Try.isAgg4
  z4 := Try.sizeOf4
  v4 := Try.zeroValue4
  t5 := Try.underlying5
  a5 := Try.isAgg5
  z5 := Try.sizeOf5
  v5 := Try.zeroValue5
  t9 := Try.underlying9
  a9 := Try.isAgg9
  z9 := Try.sizeOf9
  v9 := Try.zeroValue9
  t20 := Try.underlying20
  a20 := Try.isAgg20
  z20 := Try.sizeOf20
  v20 := Try.zeroValue20
  t37 := Try.underlying49
  a37 := Try.isAgg49
  z37 := Try.sizeOf49
  v37 := Try.zeroValue49
  t46 := Try.underlying106
  a46 := Try.isAgg106
  z46 := Try.sizeOf106
  v46 := Try.zeroValue106
  t51 := Try.underlying133
  a51 := Try.isAgg133
  z51 := Try.sizeOf133
  v51 := Try.zeroValue133
  t53 := Try.underlying47
  a53 := Try.isAgg47
  z53 := Try.sizeOf47
  v53 := Try.zeroValue47
  t70 := Try.underlying110
  a70 := Try.isAgg110
  z70 := Try.sizeOf110
  v70 := Try.zeroValue110
  t72 := Try.underlying112
  a72 := Try.isAgg112
  z72 := Try.sizeOf112
  v72 := Try.zeroValue112
  t75 := Try.underlying114
  a75 := Try.isAgg114
  z75 := Try.sizeOf114
  v75 := Try.zeroValue114
  t76 := Try.underlying115
  a76 := Try.isAgg115
  z76 := Try.sizeOf115
  v76 := Try.zeroValue115
  t109 := Try.underlying107
  a109 := Try.isAgg107
  z109 := Try.sizeOf107
  v109 := Try.zeroValue107
  t127 := Try.underlying138
  a127 := Try.isAgg138
  z127 := Try.sizeOf138
  v127 := Try.zeroValue138
  t146 := Try.underlying134
  a146 := Try.isAgg134
  z146 := Try.sizeOf134
  v146 := Try.zeroValue134
  t148 := Try.underlying136
  a148 := Try.isAgg136
  z148 := Try.sizeOf136
  v148 := Try.zeroValue136
  t164 := Try.underlying146
  a164 := Try.isAgg146
  z164 := Try.sizeOf146
  v164 := Try.zeroValue146


theorem LnR.extra : Builder.Extra Try.prog LnR.lays_ren where
  sizeBuilder := by kernel_rfl
  liesBuilder := by kernel_rfl
  t5 := LnR.lays.t5
  a5 := LnR.lays.a5
  z5 := LnR.lays.z5
  v5 := LnR.lays.v5
  infoByte := by kernel_rfl
  cellsByte := by kernel_rfl
  sizeByte := by kernel_rfl
  neB5 := by decide
theorem LnR.fRepeat : LnR.lays_ren.f 105 = 42 := by kernel_rfl
set_option maxRecDepth 20000 in
theorem repeat64 (w : World) : Calls Try.prog 42 #[.string ⟨#[0]⟩, .int .i64 64] w fun e w' => e = .returned (.string ⟨(List.replicate 64 (0 : UInt8)).toArray⟩) ∧ Gr [] w w' := by
  have h := Any.strings_Repeat LnR.lays LnR.extra ⟨#[0]⟩ 64 w (by omega) (by decide)
  rw [LnR.fRepeat] at h
  refine h.mono ?_
  rintro e w' ⟨rfl, hb⟩
  exact ⟨rfl, .ofBelow hb⟩
/-- The text of a line: s, noughts behind it, 64 bytes. -/
def fullL (l : List UInt8) : List UInt8 := (l ++ List.replicate 64 0).take 64
def fullS (s : ByteArray) : ByteArray := ⟨(fullL s.data.toList).toArray⟩
theorem fullL_len (l : List UInt8) : (fullL l).length = 64 := by unfold fullL; simp
theorem fullS_size (s : ByteArray) : (fullS s).size = 64 := by show (fullL s.data.toList).toArray.size = 64; rw [List.size_toArray, fullL_len]

theorem extract_full (s : ByteArray) : (s ++ (⟨(List.replicate 64 (0 : UInt8)).toArray⟩ : ByteArray)).extract 0 64 = fullS s := by
  apply ByteArray.ext
  rw [ByteArray.data_extract, ByteArray.data_append]
  apply Array.ext'
  generalize hZ : List.replicate 64 (0 : UInt8) = Z
  have h : ∀ A : Array UInt8, (A.extract 0 64).toList = A.toList.take 64 := fun A => by rw [Array.toList_extract, List.extract_eq_take_drop]; rfl
  rw [h, Array.toList_append]
  show _ = fullL s.data.toList
  unfold fullL
  rw [hZ]
end Go.Proofs.Ytgifjnniohcacaa
