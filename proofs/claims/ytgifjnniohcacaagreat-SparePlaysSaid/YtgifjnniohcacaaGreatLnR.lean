/-
  Layer 4: strings.Repeat (the library's contract, laid at this seat); full.
-/
import Derived.Test.YtgifjnniohcacaaGreatGr
import Derived.Test.YtgifjnniohcacaaGreatLeW
import Derived.Shelf.Strings.Repeat
import Derived.Ground.NamesProg
import Derived.Lib.Agree
namespace Go.Proofs.YtgifjnniohcacaaGreat
open Go.RowKit Go.Shelf

def LnR.lays_ren : Go.Shelf.Ren := ⟨fun | 105 => 38 | 212 => 67 | 99 => 68 | 165 => 69 | 166 => 70 | 170 => 71 | 169 => 72 | 263 => 88 | 264 => 89 | 206 => 90 | 240 => 91 | 241 => 92 | 276 => 109 | 277 => 110 | n => n, fun | 9 => 9 | 3 => 3 | 4 => 4 | 20 => 20 | 0 => 0 | 46 => 113 | 109 => 114 | 5 => 5 | 72 => 119 | 76 => 122 | 51 => 141 | 146 => 142 | 53 => 34 | 148 => 144 | 70 => 117 | 37 => 107 | 75 => 121 | 127 => 146 | 164 => 158 | 80 => 124 | n => n, fun | n => n⟩
theorem LnR.lays : Go.Proofs.Lays.n105 Tryz.prog LnR.lays_ren where
  mixed := by kernel_rfl
  f99 := Tryz.func68.trans (congrArg some (by kernel_rfl))
  f105 := Tryz.func38.trans (congrArg some (by kernel_rfl))
  f165 := Tryz.func69.trans (congrArg some (by kernel_rfl))
  f166 := Tryz.func70.trans (congrArg some (by kernel_rfl))
  f169 := Tryz.func72.trans (congrArg some (by kernel_rfl))
  f170 := Tryz.func71.trans (congrArg some (by kernel_rfl))
  f206 := Tryz.func90.trans (congrArg some (by kernel_rfl))
  f212 := Tryz.func67.trans (congrArg some (by kernel_rfl))
  f240 := Tryz.func91.trans (congrArg some (by kernel_rfl))
  f241 := Tryz.func92.trans (congrArg some (by kernel_rfl))
  f263 := Tryz.func88.trans (congrArg some (by kernel_rfl))
  f264 := Tryz.func89.trans (congrArg some (by kernel_rfl))
  f276 := Tryz.func109.trans (congrArg some (by kernel_rfl))
  f277 := Tryz.func110.trans (congrArg some (by kernel_rfl))
  t0 := Tryz.underlying0
  a0 := Tryz.isAgg0
  z0 := Tryz.sizeOf0
  v0 := Tryz.zeroValue0
  t3 := Tryz.underlying3
  a3 := Tryz.isAgg3
  z3 := Tryz.sizeOf3
  v3 := Tryz.zeroValue3
  t4 := Tryz.underlying4
  a4 := Tryz.isAgg4
  z4 := Tryz.sizeOf4
  v4 := Tryz.zeroValue4
  t5 := Tryz.underlying5
  a5 := Tryz.isAgg5
  z5 := Tryz.sizeOf5
  v5 := Tryz.zeroValue5
  t9 := Tryz.underlying9
  a9 := Tryz.isAgg9
  z9 := Tryz.sizeOf9
  v9 := Tryz.zeroValue9
  t20 := Tryz.underlying20
  a20 := Tryz.isAgg20
  z20 := Tryz.sizeOf20
  v20 := Tryz.zeroValue20
  t37 := Tryz.underlying107
  a37 := Tryz.isAgg107
  z37 := Tryz.sizeOf107
  v37 := Tryz.zeroValue107
  t46 := Tryz.underlying113
  a46 := Tryz.isAgg113
  z46 := Tryz.sizeOf113
  v46 := Tryz.zeroValue113
  t51 := Tryz.underlying141
  a51 := Tryz.isAgg141
  z51 := Tryz.sizeOf141
  v51 := Tryz.zeroValue141
  t53 := Tryz.underlying34
  a53 := Tryz.isAgg34
  z53 := Tryz.sizeOf34
  v53 := Tryz.zeroValue34
  t70 := Tryz.underlying117
  a70 := Tryz.isAgg117
  z70 := Tryz.sizeOf117
  v70 := Tryz.zeroValue117
  t72 := Tryz.underlying119
  a72 := Tryz.isAgg119
  z72 := Tryz.sizeOf119
  v72 := Tryz.zeroValue119
  t75 := Tryz.underlying121
  a75 := Tryz.isAgg121
  z75 := Tryz.sizeOf121
  v75 := Tryz.zeroValue121
  t76 := Tryz.underlying122
  a76 := Tryz.isAgg122
  z76 := Tryz.sizeOf122
  v76 := Tryz.zeroValue122
  t109 := Tryz.underlying114
  a109 := Tryz.isAgg114
  z109 := Tryz.sizeOf114
  v109 := Tryz.zeroValue114
  t127 := Tryz.underlying146
  a127 := Tryz.isAgg146
  z127 := Tryz.sizeOf146
  v127 := Tryz.zeroValue146
  t146 := Tryz.underlying142
  a146 := Tryz.isAgg142
  z146 := Tryz.sizeOf142
  v146 := Tryz.zeroValue142
  t148 := Tryz.underlying144
  a148 := Tryz.isAgg144
  z148 := Tryz.sizeOf144
  v148 := Tryz.zeroValue144
  t164 := Tryz.underlying158
  a164 := Tryz.isAgg158
  z164 := Tryz.sizeOf158
  v164 := Tryz.zeroValue158


theorem LnR.extra : Builder.Extra Tryz.prog LnR.lays_ren where
  sizeBuilder := by kernel_rfl
  liesBuilder := by kernel_rfl
  t5 := LnR.lays.t5
  a5 := LnR.lays.a5
  z5 := LnR.lays.z5
  v5 := LnR.lays.v5
  infoByte := by kernel_rfl
  cellsByte := by kernel_rfl
  sizeByte := by kernel_rfl
  neB5 := by decide
theorem LnR.fRepeat : LnR.lays_ren.f 105 = 38 := by kernel_rfl
set_option maxRecDepth 20000 in
theorem repeat64 (w : World) : Calls Tryz.prog 38 #[.string ⟨#[0]⟩, .int .i64 64] w fun e w' => e = .returned (.string ⟨(List.replicate 64 (0 : UInt8)).toArray⟩) ∧ Gr [] w w' := by
  have h := Any.strings_Repeat LnR.lays LnR.extra ⟨#[0]⟩ 64 w (by omega) (by decide)
  rw [LnR.fRepeat] at h
  refine h.mono ?_
  rintro e w' ⟨rfl, hb⟩
  exact ⟨rfl, .ofBelow hb⟩
/-- The text of a line: s, noughts behind it, 64 bytes. -/
def fullL (l : List UInt8) : List UInt8 := (l ++ List.replicate 64 0).take 64
def fullS (s : ByteArray) : ByteArray := ⟨(fullL s.data.toList).toArray⟩
theorem fullL_len (l : List UInt8) : (fullL l).length = 64 := by unfold fullL; simp
theorem fullS_size (s : ByteArray) : (fullS s).size = 64 := by show (fullL s.data.toList).toArray.size = 64; rw [List.size_toArray, fullL_len]

theorem extract_full (s : ByteArray) : (s ++ (⟨(List.replicate 64 (0 : UInt8)).toArray⟩ : ByteArray)).extract 0 64 = fullS s := by
  apply ByteArray.ext
  rw [ByteArray.data_extract, ByteArray.data_append]
  apply Array.ext'
  generalize hZ : List.replicate 64 (0 : UInt8) = Z
  have h : ∀ A : Array UInt8, (A.extract 0 64).toList = A.toList.take 64 := fun A => by rw [Array.toList_extract, List.extract_eq_take_drop]; rfl
  rw [h, Array.toList_append]
  show _ = fullL s.data.toList
  unfold fullL
  rw [hZ]
end Go.Proofs.YtgifjnniohcacaaGreat
