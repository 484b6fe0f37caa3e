/-
  Layer 16: what each law first looks at: the pieces.
-/
import Derived.Test.YtpkhfdcokcchdabGr
import Derived.Test.YtpkhfdcokcchdabBase
import Derived.Test.YtpkhfdcokcchdabRegT
import Derived.Test.YtpkhfdcokcchdabLe
import Derived.Shelf.Strings.BuilderK
import Derived.Ground.NamesProg
import Derived.Lib.Agree
namespace Go.Proofs.Ytpkhfdcokcchdab
open Go.RowKit Go.Shelf

def InA.lays_ren : Go.Shelf.Ren := ⟨fun | 169 => 55 | n => n, fun | 70 => 93 | 9 => 9 | 0 => 0 | 72 => 95 | 37 => 70 | 127 => 105 | 3 => 3 | 5 => 5 | n => n, fun | n => n⟩
theorem InA.lays : Go.Proofs.Lays.n169 Try.prog InA.lays_ren where
  mixed := by kernel_rfl
  f169 := Try.func55.trans (congrArg some (by kernel_rfl))
  t0 := Try.underlying0
  a0 := Try.isAgg0
  z0 := Try.sizeOf0
  v0 := Try.zeroValue0
  t3 := Try.underlying3
  a3 := Try.isAgg3
  z3 := Try.sizeOf3
  v3 := Try.zeroValue3
  t9 := Try.underlying9
  a9 := Try.isAgg9
  z9 := Try.sizeOf9
  v9 := Try.zeroValue9
  t37 := Try.underlying70
  a37 := Try.isAgg70
  z37 := Try.sizeOf70
  v37 := Try.zeroValue70
  t70 := Try.underlying93
  a70 := Try.isAgg93
  z70 := Try.sizeOf93
  v70 := Try.zeroValue93
  t72 := Try.underlying95
  a72 := Try.isAgg95
  z72 := Try.sizeOf95
  v72 := Try.zeroValue95
  t127 := Try.underlying105
  a127 := Try.isAgg105
  z127 := Try.sizeOf105
  v127 := Try.zeroValue105


theorem InA.extra : Builder.Extra Try.prog InA.lays_ren where
  sizeBuilder := by kernel_rfl
  liesBuilder := by kernel_rfl
  t5 := Try.underlying5
  a5 := Try.isAgg5
  z5 := Try.sizeOf5
  v5 := Try.zeroValue5
  infoByte := by kernel_rfl
  cellsByte := by kernel_rfl
  sizeByte := by kernel_rfl
  neB5 := by decide
theorem InA.fString : InA.lays_ren.f 169 = 55 := by kernel_rfl
theorem InA.tB : InA.lays_ren.t 72 = 95 := by kernel_rfl
theorem fresh_string (w : World) : Calls Try.prog 55 #[.pointer (some ⟨w.heap.size, 0, none⟩)] (w.alloc (.cells #[.pointer none, .slice none 0 0] 95)) fun e w' => e = .returned (.string ⟨#[]⟩) ∧ Below w.heap.size w w' := by
  have h : Lib.IsBuilderF (InA.lays_ren.t 72) (InA.lays_ren.t 5) w.heap.size w.heap.size (Lib.byteCells []) (w.alloc (.cells #[.pointer none, .slice none 0 0] (InA.lays_ren.t 72))) := Lib.IsBuilderF.of (Lib.fresh_isBuilder _ _ w)
  have q := Any.Builder_String_any_k { InA.lays with } InA.extra w.heap.size w.heap.size [] _ h (by simp)
  rw [InA.fString, InA.tB] at q
  exact q.mono fun e w' ⟨he, _, h2, _⟩ => ⟨he, ((Below.refl _ w).alloc (Nat.le_refl _) _).trans h2⟩
theorem calls_below {P : Program} {f : FuncId} {args : Array Value} {w : World} {v : Value} (h : Calls P f args w fun e w' => e = .returned v ∧ Gr [] w w') : Calls P f args w fun e w' => e = .returned v ∧ Below w.heap.size w w' :=
  h.mono fun _ _ ⟨a, b⟩ => ⟨a, b.below0⟩
theorem need_nat (n : Nat) (w : World) (h : n ≤ 1099511627776) :
    Calls Try.prog 19 #[.int .i64 n] w fun e w' => e = .returned (.int .i64 ((n + 63) / 64 : Nat)) ∧ Gr [] w w' := by
  have HG := Lib.hid (Gr.refl [] w)
  by_cases h0 : n < 1
  · have t : decide (n < 1) = true := by simpa using h0
    obtain rfl : n = 0 := by omega
    go_enter Try.func19, Try.ntmps19
    go_wp2_with fail
    go_ret
    exact ⟨rfl, HG.out⟩
  · have h1 : ¬ (n : Int) < 1 := by omega
    have h2 : (1 : Int) ≤ (n : Int) := by omega
    go_enter Try.func19, Try.ntmps19
    go_wp2_with fail
    go_ret
    refine ⟨?_, HG.out⟩
    show Ending.returned (.int .i64 (((n : Int) - 1) / 64 + 1)) = _
    simp only [Ending.returned.injEq, Value.int.injEq, true_and]
    omega
theorem need_65 (w : World) : Calls Try.prog 19 #[.int .i64 65] w fun e w' => e = .returned (.int .i64 2) ∧ Gr [] w w' := need_nat 65 w (by omega)
theorem xright_nil (w : World) : Calls Try.prog 33 #[.slice none 0 0] w fun e w' => e = .returned (.bool true) ∧ Gr [] w w' := by
  have HG := Lib.hid (Gr.refl [] w)
  go_enter Try.func33, Try.ntmps33
  go_wp2_with fail
  go_loopw [3, 11] (fun s i wr => s = .int .i64 0 ∧ i = .int .i64 0 ∧ Gr [] w wr) (fun _ _ _ => 0)
  case atStart => exact ⟨rfl, rfl, HG.out⟩
  case round =>
    obtain ⟨rfl, rfl, G⟩ := hrel
    have HR := Lib.hid G
    clear G
    go_wp2_with fail
    go_ret
    exact ⟨rfl, HR.out⟩

end Go.Proofs.Ytpkhfdcokcchdab
