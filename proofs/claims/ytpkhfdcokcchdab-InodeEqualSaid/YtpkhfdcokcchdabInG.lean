/-
  Layer 16: which inodes may be, without the program; Need of any number; a string that holds no zero.
-/
import Derived.Test.YtpkhfdcokcchdabInF
import Derived.Test.YtpkhfdcokcchdabEzE
import Derived.Test.YtpkhfdcokcchdabEzC
import Derived.Shelf.Strings.Search3
import Derived.Lib.IndexAny
namespace Go.Proofs.Ytpkhfdcokcchdab
open Go.RowKit Go.Shelf

def InG.cont_ren : Go.Shelf.Ren := ⟨fun | 144 => 35 | 143 => 53 | 219 => 63 | 217 => 68 | 225 => 69 | 224 => 70 | 267 => 71 | 266 => 78 | 314 => 79 | n => n, fun | 9 => 9 | 4 => 4 | 3 => 3 | 5 => 5 | 46 => 107 | 146 => 118 | 51 => 48 | n => n, fun | 1 => 0 | n => n⟩
theorem InG.cont : Go.Proofs.Lays.n144 Try.prog InG.cont_ren where
  mixed := by kernel_rfl
  f143 := Try.func53.trans (congrArg some (by kernel_rfl))
  f144 := Try.func35.trans (congrArg some (by kernel_rfl))
  f217 := Try.func68.trans (congrArg some (by kernel_rfl))
  f219 := Try.func63.trans (congrArg some (by kernel_rfl))
  f224 := Try.func70.trans (congrArg some (by kernel_rfl))
  f225 := Try.func69.trans (congrArg some (by kernel_rfl))
  f266 := Try.func78.trans (congrArg some (by kernel_rfl))
  f267 := Try.func71.trans (congrArg some (by kernel_rfl))
  f314 := Try.func79.trans (congrArg some (by kernel_rfl))
  t3 := Try.underlying3
  a3 := Try.isAgg3
  z3 := Try.sizeOf3
  v3 := Try.zeroValue3
  t4 := Try.underlying4
  a4 := Try.isAgg4
  z4 := Try.sizeOf4
  v4 := Try.zeroValue4
  t5 := Try.underlying5
  a5 := Try.isAgg5
  z5 := Try.sizeOf5
  v5 := Try.zeroValue5
  t9 := Try.underlying9
  a9 := Try.isAgg9
  z9 := Try.sizeOf9
  v9 := Try.zeroValue9
  t46 := Try.underlying107
  a46 := Try.isAgg107
  z46 := Try.sizeOf107
  v46 := Try.zeroValue107
  t51 := Try.underlying48
  a51 := Try.isAgg48
  z51 := Try.sizeOf48
  v51 := Try.zeroValue48
  t146 := Try.underlying118
  a146 := Try.isAgg118
  z146 := Try.sizeOf118
  v146 := Try.zeroValue118
  g1 := by kernel_rfl


theorem InG.fC : InG.cont_ren.f 144 = 35 := by kernel_rfl
theorem contains0 (t : ByteArray) (w : World) : Calls Try.prog 35 #[.string t, .string ⟨#[0]⟩] w fun e w' => e = .returned (.bool (t.data.toList.contains 0)) ∧ w' = w := by
  have q := Any.strings_Contains_one InG.cont t 0 w
  rw [InG.fC, ← Lib.contains_iff_indexByte] at q
  exact q
def needZ (s : Int) : Int := if s < 1 then 0 else (s - 1) / 64 + 1
def zfree (t : ByteArray) : Prop := t.data.toList.contains 0 = false
/-- May it be? -/
def Right16 (k : Nat) (l s : Int) (b : List (Int × Int)) (t : ByteArray) : Prop :=
  0 ≤ l ∧ l ≤ 1000 ∧
  ((k = 1 ∧ 0 ≤ s ∧ s ≤ 4194304 ∧ t.size = 0 ∧ Right15 b ∧ sumZ b = needZ s) ∨
   (k = 2 ∧ s = 0 ∧ b.length = 0 ∧ t.size = 0) ∨
   (k = 3 ∧ t.size ≠ 0 ∧ t.size ≤ 256 ∧ zfree t ∧ s = t.size ∧ b.length = 0))
theorem needZ_bd (s : Int) (h : s ≤ 9223372036854775807) : 0 ≤ needZ s ∧ needZ s ≤ 9223372036854775807 := by
  unfold needZ
  split <;> omega
theorem need_any (s : Int) (w : World) (h : s ≤ 9223372036854775807) :
    Calls Try.prog 19 #[.int .i64 s] w fun e w' => e = .returned (.int .i64 (needZ s)) ∧ Gr [] w w' := by
  have HG := Lib.hid (Gr.refl [] w)
  unfold needZ
  by_cases h0 : s < 1
  · rw [if_pos h0]
    go_enter Try.func19, Try.ntmps19
    go_wp2_with fail
    go_ret
    exact ⟨rfl, HG.out⟩
  · rw [if_neg h0]
    have h1 : IntKind.i64.wrap (s - 1) = s - 1 := IntWalk.i64_in _ (by omega)
    have h2 : IntKind.i64.wrap ((s - 1) / 64 + 1) = (s - 1) / 64 + 1 := IntWalk.i64_in _ (by omega)
    have h3 : (1 : Int) ≤ s := by omega
    have h4 : (0 : Int) ≤ s - 1 := by omega
    go_enter Try.func19, Try.ntmps19
    go_wp2_with fail
    go_ret
    exact ⟨rfl, HG.out⟩
theorem rneed_any (s : Int) (w : World) (h : s ≤ 9223372036854775807) :
    Calls Try.prog 20 #[.int .i64 s] w fun e w' => e = .returned (.int .i64 (needZ s)) ∧ Gr [] w w' := by
  have HG := Lib.hid (Gr.refl [] w)
  by_cases h0 : s < 1
  · have hz : needZ s = 0 := by unfold needZ; rw [if_pos h0]
    have HZ := Lib.hid hz
    clear hz
    go_enter Try.func20, Try.ntmps20
    go_wp2_with fail
    go_ret
    exact ⟨by rw [HZ.out]; rfl, HG.out⟩
  · have h3 : (1 : Int) ≤ s := by omega
    have h5 : (0 : Int) ≤ s := by omega
    by_cases hr : s % 64 = 0
    · have HZ := Lib.hid (show needZ s = s / 64 by unfold needZ; rw [if_neg h0]; omega)
      have hr2 : ¬ (0 : Int) < s % 64 := by omega
      go_enter Try.func20, Try.ntmps20
      go_wp2_with fail
      go_ret
      exact ⟨by rw [HZ.out]; rfl, HG.out⟩
    · have HZ := Lib.hid (show needZ s = s / 64 + 1 by unfold needZ; rw [if_neg h0]; omega)
      have hr2 : (0 : Int) < s % 64 := by omega
      have h2 : IntKind.i64.wrap (s / 64 + 1) = s / 64 + 1 := IntWalk.i64_in _ (by omega)
      go_enter Try.func20, Try.ntmps20
      go_wp2_with fail
      go_ret
      exact ⟨by rw [HZ.out]; rfl, HG.out⟩

end Go.Proofs.Ytpkhfdcokcchdab
