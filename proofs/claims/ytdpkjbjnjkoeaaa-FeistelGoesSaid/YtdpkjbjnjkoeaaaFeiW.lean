/-
  The walk of a place till it is a place again.
-/
import Derived.Test.YtdpkjbjnjkoeaaaFeiR
import Derived.Deep.LoopGhost
namespace Go.Proofs.Ytdpkjbjnjkoeaaa
open Go.RowKit

/-- The value of a Perm. -/
def pV (sz h a b c d : Nat) : Value := .agg #[.int .i64 sz, .int .i64 h, .int .u16 a, .int .u16 b, .int .u16 c, .int .u16 d]
/-- j is the first return of i below m. -/
def FB (f : Nat → Nat) (m i j : Nat) : Prop := ∃ D, 1 ≤ D ∧ j = iter f D i ∧ j < m ∧ ∀ s, 1 ≤ s → s < D → m ≤ iter f s i
def keys4 (a b c d : Nat) : Prop := ∀ k ∈ [a, b, c, d], k < 65536
def Pl (f : Nat → Nat) (i D k : Nat) (x : Nat) : Prop := ∃ s, 1 ≤ s ∧ k + s = D ∧ x = iter f s i

set_option maxHeartbeats 1000000 in
theorem walkT (sz h a b c d i j : Nat) (w : World) (h1 : 1 ≤ h) (h2 : h ≤ 7) (hk : keys4 a b c d) (hi : i < sz) (hs : sz ≤ 2 ^ h * 2 ^ h) (hs2 : sz ≤ 8192) (hf : FB (turnN h [a, b, c, d]) sz i j) :
    Calls Try.prog 46 #[.agg #[.int .i64 sz, .int .i64 h, .int .u16 a, .int .u16 b, .int .u16 c, .int .u16 d], .int .i64 i, .func (.func 47) #[.agg #[.int .i64 sz, .int .i64 h, .int .u16 a, .int .u16 b, .int .u16 c, .int .u16 d]] #[]] w fun e w' =>
      e = .returned (.int .i64 j) ∧ Below w.heap.size w w' := by
  obtain ⟨D, hD, hj, hjm, hall⟩ := hf
  have HC := Lib.hid (fun (n : Nat) (w : World) (hn : n < 2 ^ h * 2 ^ h) => turn_any (sz : Int) h a b c d n w h1 h2 hn hk)
  have HL := Lib.hid (fun s => iter_lt (f := turnN h [a, b, c, d]) (M := 2 ^ h * 2 ^ h) (fun x hx => turnN_lt [a, b, c, d] hx) s i (by omega))
  have HA := Lib.hid hall
  have HJ := Lib.hid hj
  clear hall hj hk h1 h2
  have HS := Lib.hid hs
  clear hs
  go_enter Try.func46, Try.ntmps46
  go_wp2_with fail
  have X1 := Holds.new w #[Value.int IntKind.i64 sz, Value.int IntKind.i64 h, Value.int IntKind.u16 a, Value.int IntKind.u16 b, Value.int IntKind.u16 c, Value.int IntKind.u16 d] 27
  have B1 := below_new (Below.refl _ w) (Obj.cells #[Value.int IntKind.i64 sz, Value.int IntKind.i64 h, Value.int IntKind.u16 a, Value.int IntKind.u16 b, Value.int IntKind.u16 c, Value.int IntKind.u16 d] 27)
  generalize w.alloc (Obj.cells #[Value.int IntKind.i64 sz, Value.int IntKind.i64 h, Value.int IntKind.u16 a, Value.int IntKind.u16 b, Value.int IntKind.u16 c, Value.int IntKind.u16 d] 27) = wa at *
  refine (HC.out i _ (by have := HS.out; omega)).mono ?_
  rintro e w1 ⟨rfl, hb1⟩
  have X2 := X1.below hb1
  have B2 := below_next B1 hb1
  clear X1 B1 hb1
  have HP : Pl (turnN h [a, b, c, d]) i D (D - 1) (turnN h [a, b, c, d] i) := ⟨1, Nat.le_refl _, by omega, rfl⟩
  generalize turnN h [a, b, c, d] i = x0 at *
  go_wp2_with fail
  go_loopg [1] (D - 1) (fun k x wr => ∃ (y : Nat), k < D ∧ x = .int .i64 y ∧ Pl (turnN h [a, b, c, d]) i D k y ∧ Holds wr w.heap.size #[Value.int IntKind.i64 sz, Value.int IntKind.i64 h, Value.int IntKind.u16 a, Value.int IntKind.u16 b, Value.int IntKind.u16 c, Value.int IntKind.u16 d] 27 ∧ Below w.heap.size w wr)
  case atStart => exact ⟨x0, by omega, rfl, HP, X2, B2⟩
  case round =>
    clear X2 B2 HP
    obtain ⟨y, hkD, rfl, hpl, X1, B1⟩ := hrel
    obtain ⟨s, hs1, hs2', hy⟩ := hpl
    have hyl : y < 2 ^ h * 2 ^ h := by rw [hy]; exact HL.out s
    have HY := Lib.hid hy
    by_cases hk0 : gk = 0
    · have hyj : y = j := by
        have := HJ.out
        obtain rfl : s = D := by omega
        rw [hy, this]
      clear hy hyl
      obtain ⟨c0, c1⟩ : wr.cell? ⟨w.heap.size, 0, none⟩ = some (.int .i64 sz) ∧ wr.cell? ⟨w.heap.size, 1, none⟩ = some (.int .i64 h) := ⟨X1.cell 0, X1.cell 1⟩
      have hlt : y < sz := by omega
      have HB := Lib.hid (And.intro B1 hyj)
      clear hyj B1 hk0 hs2'
      go_wp2_with fail
      go_ret
      exact ⟨by rw [HB.out.2]; rfl, HB.out.1⟩
    · have hge : sz ≤ y := by rw [hy]; exact HA.out s hs1 (by omega)
      clear hy
      obtain ⟨c0, c1⟩ : wr.cell? ⟨w.heap.size, 0, none⟩ = some (.int .i64 sz) ∧ wr.cell? ⟨w.heap.size, 1, none⟩ = some (.int .i64 h) := ⟨X1.cell 0, X1.cell 1⟩
      have HN := Lib.hid (show Pl (turnN h [a, b, c, d]) i D (gk - 1) (turnN h [a, b, c, d] y) from ⟨s + 1, by omega, by omega, by rw [HY.out]; rfl⟩)
      have HCy := Lib.hid (fun w => HC.out y w hyl)
      generalize turnN h [a, b, c, d] y = x1 at HN HCy
      have HQ := Lib.hid hs2'
      clear hs2'
      go_wp2_with fail
      refine (HCy.out _).mono ?_
      rintro e w2 ⟨rfl, hb2⟩
      have RR := Lib.hid (And.intro (X1.below hb2) (below_next B1 hb2))
      clear X1 B1 hb2 c0 c1 HCy
      go_wp2
      go_roundg (gk - 1)
      case measure => omega
      case rel => exact ⟨x1, by omega, rfl, HN.out, RR.out.1, RR.out.2⟩

set_option maxHeartbeats 1000000 in
theorem walkB (sz h a b c d i j : Nat) (w : World) (h1 : 1 ≤ h) (h2 : h ≤ 7) (hk : keys4 a b c d) (hi : i < sz) (hs : sz ≤ 2 ^ h * 2 ^ h) (hs2 : sz ≤ 8192) (hf : FB (turnB h [a, b, c, d]) sz i j) :
    Calls Try.prog 46 #[.agg #[.int .i64 sz, .int .i64 h, .int .u16 a, .int .u16 b, .int .u16 c, .int .u16 d], .int .i64 i, .func (.func 48) #[.agg #[.int .i64 sz, .int .i64 h, .int .u16 a, .int .u16 b, .int .u16 c, .int .u16 d]] #[]] w fun e w' =>
      e = .returned (.int .i64 j) ∧ Below w.heap.size w w' := by
  obtain ⟨D, hD, hj, hjm, hall⟩ := hf
  have HC := Lib.hid (fun (n : Nat) (w : World) (hn : n < 2 ^ h * 2 ^ h) => turnB_any (sz : Int) h a b c d n w h1 h2 hn hk)
  have HL := Lib.hid (fun s => iter_lt (f := turnB h [a, b, c, d]) (M := 2 ^ h * 2 ^ h) (fun x hx => turnB_lt [a, b, c, d] hx) s i (by omega))
  have HA := Lib.hid hall
  have HJ := Lib.hid hj
  clear hall hj hk h1 h2
  have HS := Lib.hid hs
  clear hs
  go_enter Try.func46, Try.ntmps46
  go_wp2_with fail
  have X1 := Holds.new w #[Value.int IntKind.i64 sz, Value.int IntKind.i64 h, Value.int IntKind.u16 a, Value.int IntKind.u16 b, Value.int IntKind.u16 c, Value.int IntKind.u16 d] 27
  have B1 := below_new (Below.refl _ w) (Obj.cells #[Value.int IntKind.i64 sz, Value.int IntKind.i64 h, Value.int IntKind.u16 a, Value.int IntKind.u16 b, Value.int IntKind.u16 c, Value.int IntKind.u16 d] 27)
  generalize w.alloc (Obj.cells #[Value.int IntKind.i64 sz, Value.int IntKind.i64 h, Value.int IntKind.u16 a, Value.int IntKind.u16 b, Value.int IntKind.u16 c, Value.int IntKind.u16 d] 27) = wa at *
  refine (HC.out i _ (by have := HS.out; omega)).mono ?_
  rintro e w1 ⟨rfl, hb1⟩
  have X2 := X1.below hb1
  have B2 := below_next B1 hb1
  clear X1 B1 hb1
  have HP : Pl (turnB h [a, b, c, d]) i D (D - 1) (turnB h [a, b, c, d] i) := ⟨1, Nat.le_refl _, by omega, rfl⟩
  generalize turnB h [a, b, c, d] i = x0 at *
  go_wp2_with fail
  go_loopg [1] (D - 1) (fun k x wr => ∃ (y : Nat), k < D ∧ x = .int .i64 y ∧ Pl (turnB h [a, b, c, d]) i D k y ∧ Holds wr w.heap.size #[Value.int IntKind.i64 sz, Value.int IntKind.i64 h, Value.int IntKind.u16 a, Value.int IntKind.u16 b, Value.int IntKind.u16 c, Value.int IntKind.u16 d] 27 ∧ Below w.heap.size w wr)
  case atStart => exact ⟨x0, by omega, rfl, HP, X2, B2⟩
  case round =>
    clear X2 B2 HP
    obtain ⟨y, hkD, rfl, hpl, X1, B1⟩ := hrel
    obtain ⟨s, hs1, hs2', hy⟩ := hpl
    have hyl : y < 2 ^ h * 2 ^ h := by rw [hy]; exact HL.out s
    have HY := Lib.hid hy
    by_cases hk0 : gk = 0
    · have hyj : y = j := by
        have := HJ.out
        obtain rfl : s = D := by omega
        rw [hy, this]
      clear hy hyl
      obtain ⟨c0, c1⟩ : wr.cell? ⟨w.heap.size, 0, none⟩ = some (.int .i64 sz) ∧ wr.cell? ⟨w.heap.size, 1, none⟩ = some (.int .i64 h) := ⟨X1.cell 0, X1.cell 1⟩
      have hlt : y < sz := by omega
      have HB := Lib.hid (And.intro B1 hyj)
      clear hyj B1 hk0 hs2'
      go_wp2_with fail
      go_ret
      exact ⟨by rw [HB.out.2]; rfl, HB.out.1⟩
    · have hge : sz ≤ y := by rw [hy]; exact HA.out s hs1 (by omega)
      clear hy
      obtain ⟨c0, c1⟩ : wr.cell? ⟨w.heap.size, 0, none⟩ = some (.int .i64 sz) ∧ wr.cell? ⟨w.heap.size, 1, none⟩ = some (.int .i64 h) := ⟨X1.cell 0, X1.cell 1⟩
      have HN := Lib.hid (show Pl (turnB h [a, b, c, d]) i D (gk - 1) (turnB h [a, b, c, d] y) from ⟨s + 1, by omega, by omega, by rw [HY.out]; rfl⟩)
      have HCy := Lib.hid (fun w => HC.out y w hyl)
      generalize turnB h [a, b, c, d] y = x1 at HN HCy
      have HQ := Lib.hid hs2'
      clear hs2'
      go_wp2_with fail
      refine (HCy.out _).mono ?_
      rintro e w2 ⟨rfl, hb2⟩
      have RR := Lib.hid (And.intro (X1.below hb2) (below_next B1 hb2))
      clear X1 B1 hb2 c0 c1 HCy
      go_wp2
      go_roundg (gk - 1)
      case measure => omega
      case rel => exact ⟨x1, by omega, rfl, HN.out, RR.out.1, RR.out.2⟩

end Go.Proofs.Ytdpkjbjnjkoeaaa
