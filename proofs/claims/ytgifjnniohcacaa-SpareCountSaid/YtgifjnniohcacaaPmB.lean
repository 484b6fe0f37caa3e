/-
  Calls of package pm that only read, and those that write one field or cell.
-/
import Derived.Test.YtgifjnniohcacaaPm
namespace Go.Proofs.Ytgifjnniohcacaa
open Go.RowKit

theorem lines_nil (w : World) : Calls Try.prog 31 #[.pointer none] w fun e w' => e = .returned (.int .i64 0) ∧ w = w' := by
  go_enter Try.func31, Try.ntmps31
  go_wp2
  go_ret
  exact ⟨rfl, rfl⟩
theorem hasWord_nil (z : Int) (w : World) : Calls Try.prog 49 #[.pointer none, .int .i64 z] w fun e w' => e = .returned (.bool false) ∧ w = w' := by
  by_cases h0 : 0 ≤ z
  · have hd : decide (0 ≤ z) = true := by simpa using h0
    have hd2 : decide (z < 0) = false := by simp; omega
    go_enter Try.func49, Try.ntmps49
    go_wp2_with (refine (lines_nil _).mono ?_; rintro e w' ⟨rfl, rfl⟩)
    go_ret
    exact ⟨rfl, rfl⟩
  · have hd : decide (0 ≤ z) = false := by simpa using h0
    go_enter Try.func49, Try.ntmps49
    go_wp2_with (refine (lines_nil _).mono ?_; rintro e w' ⟨rfl, rfl⟩)
    go_ret
    exact ⟨rfl, rfl⟩
theorem hasLine_nil (z : Int) (w : World) : Calls Try.prog 43 #[.pointer none, .int .i64 z] w fun e w' => e = .returned (.bool false) ∧ w = w' := by
  by_cases h0 : 0 ≤ z
  · have hd : decide (0 ≤ z) = true := by simpa using h0
    have hd2 : decide (z < 0) = false := by simp; omega
    go_enter Try.func43, Try.ntmps43
    go_wp2_with (refine (lines_nil _).mono ?_; rintro e w' ⟨rfl, rfl⟩)
    go_ret
    exact ⟨rfl, rfl⟩
  · have hd : decide (0 ≤ z) = false := by simpa using h0
    go_enter Try.func43, Try.ntmps43
    go_wp2_with (refine (lines_nil _).mono ?_; rintro e w' ⟨rfl, rfl⟩)
    go_ret
    exact ⟨rfl, rfl⟩
def reachE (D : DevS) (there : Bool) : Int := if D.off then 6 else if there then 0 else 3
theorem reach_nil (there : Bool) (w : World) : Calls Try.prog 48 #[.pointer none, .bool there] w fun e w' => e = .returned (.int .i64 1) ∧ w = w' := by
  go_enter Try.func48, Try.ntmps48
  go_wp2
  go_ret
  exact ⟨rfl, rfl⟩
theorem reach_any (a : DevA) (D : DevS) (there : Bool) (w : World) (h : DevIs w a D) : Calls Try.prog 48 #[.pointer (some ⟨a.bd, 0, none⟩), .bool there] w fun e w' => e = .returned (.int .i64 (reachE D there)) ∧ w = w' := by
  have c5 := h.c5
  clear h
  unfold reachE
  obtain ⟨off, hoff⟩ : ∃ o, D.off = o := ⟨_, rfl⟩
  rw [hoff] at c5 ⊢
  clear hoff
  cases off with
  | true =>
    go_enter Try.func48, Try.ntmps48
    go_wp2
    go_ret
    exact ⟨rfl, rfl⟩
  | false =>
    cases there with
    | true =>
      go_enter Try.func48, Try.ntmps48
      go_wp2
      go_ret
      exact ⟨rfl, rfl⟩
    | false =>
      go_enter Try.func48, Try.ntmps48
      go_wp2
      go_ret
      exact ⟨rfl, rfl⟩

theorem media_in (a : DevA) (D : DevS) (i : Nat) (w : World) (h : DevIs w a D) (hi : i < 8 * D.n) : Calls Try.prog 71 #[.pointer (some ⟨a.bd, 0, none⟩), .int .i64 i] w fun e w' => e = .returned (.int .u64 (D.med i : Int)) ∧ w = w' := by
  have hh := hasWord_any a D w h i
  have hn := h.ok.hi
  have c0 := h.c0
  have m := h.medAt hi
  rw [decide_eq_true (by omega)] at hh
  have H := Lib.hid hh
  clear hh h
  generalize D.n = n at *
  go_enter Try.func71, Try.ntmps71
  go_wp2_with (refine H.out.mono ?_; rintro e w' ⟨rfl, rfl⟩)
  go_ret
  exact ⟨rfl, rfl⟩
theorem media_out (a : DevA) (D : DevS) (z : Int) (w : World) (h : DevIs w a D) (hz : ¬ (0 ≤ z ∧ z < 8 * D.n)) : Calls Try.prog 71 #[.pointer (some ⟨a.bd, 0, none⟩), .int .i64 z] w fun e w' => e = .returned (.int .u64 0) ∧ w = w' := by
  have hh := hasWord_any a D w h z
  rw [decide_eq_false hz] at hh
  have H := Lib.hid hh
  clear hh h hz
  go_enter Try.func71, Try.ntmps71
  go_wp2_with (refine H.out.mono ?_; rintro e w' ⟨rfl, rfl⟩)
  go_ret
  exact ⟨rfl, rfl⟩
theorem media_nil (z : Int) (w : World) : Calls Try.prog 71 #[.pointer none, .int .i64 z] w fun e w' => e = .returned (.int .u64 0) ∧ w = w' := by
  go_enter Try.func71, Try.ntmps71
  go_wp2_with (refine (hasWord_nil z _).mono ?_; rintro e w' ⟨rfl, rfl⟩)
  go_ret
  exact ⟨rfl, rfl⟩

/-! ### A field or a cell is written -/
section
variable {W : World} {a : DevA} {D : DevS}
theorem nd5 {a : DevA} (h : a.all.Nodup) : a.bd ≠ a.bm ∧ a.bd ≠ a.bb ∧ a.bd ≠ a.bw ∧ a.bd ≠ a.bg ∧ a.bm ≠ a.bb ∧ a.bm ≠ a.bw ∧ a.bm ≠ a.bg ∧ a.bb ≠ a.bw ∧ a.bb ≠ a.bg ∧ a.bw ≠ a.bg := by
  simp only [DevA.all, List.nodup_cons, List.mem_cons, List.not_mem_nil, or_false, not_or, List.nodup_nil, and_true, not_false_eq_true] at h
  obtain ⟨⟨h1, h2, h3, h4⟩, ⟨h5, h6, h7⟩, ⟨h8, h9⟩, h10⟩ := h
  exact ⟨h1, h2, h3, h4, h5, h6, h7, h8, h9, h10⟩
theorem grSet (W : World) (b i : Nat) (v : Value) : Gr [b] W (W.setCell ⟨b, i, none⟩ v) := (Gr.refl _ _).setCell (p := ⟨b, i, none⟩) (.inl (by simp)) _
theorem DevIs.setFuse (h : DevIs W a D) (x : Int) (h0 : 0 ≤ x) (h1 : x ≤ 9223372036854775807) : DevIs (W.setCell ⟨a.bd, 4, none⟩ (.int .i64 x)) a { D with fuse := x } := by
  obtain ⟨n1, n2, n3, n4, _⟩ := nd5 h.nd
  have g := grSet W a.bd 4 (.int .i64 x)
  exact ⟨h.head.set 4 _, h.med.gr g (by simpa using n1.symm), h.wear.gr g (by simpa using n3.symm), h.bad.gr g (by simpa using n4.symm), h.buf.gr g (by simpa using n2.symm), h.nd, ⟨h.ok.lo, h.ok.hi, h.ok.sup, h.ok.medB, h.ok.bufB, h0, h1⟩⟩
theorem DevIs.setOff (h : DevIs W a D) (x : Bool) : DevIs (W.setCell ⟨a.bd, 5, none⟩ (.bool x)) a { D with off := x } := by
  obtain ⟨n1, n2, n3, n4, _⟩ := nd5 h.nd
  have g := grSet W a.bd 5 (.bool x)
  exact ⟨h.head.set 5 _, h.med.gr g (by simpa using n1.symm), h.wear.gr g (by simpa using n3.symm), h.bad.gr g (by simpa using n4.symm), h.buf.gr g (by simpa using n2.symm), h.nd, ⟨h.ok.lo, h.ok.hi, h.ok.sup, h.ok.medB, h.ok.bufB, h.ok.fu⟩⟩
theorem DevIs.setCnt (h : DevIs W a D) (x : Nat) (hx : D.cnt ≤ x) : DevIs (W.setCell ⟨a.bd, 6, none⟩ (.int .i64 (x : Int))) a { D with cnt := x } := by
  obtain ⟨n1, n2, n3, n4, _⟩ := nd5 h.nd
  have g := grSet W a.bd 6 (.int .i64 (x : Int))
  exact ⟨h.head.set 6 _, h.med.gr g (by simpa using n1.symm), h.wear.gr g (by simpa using n3.symm), h.bad.gr g (by simpa using n4.symm), (h.buf.gr g (by simpa using n2.symm)).mono hx, h.nd, ⟨h.ok.lo, h.ok.hi, h.ok.sup, h.ok.medB, h.ok.bufB, h.ok.fu⟩⟩
theorem DevIs.setBad (h : DevIs W a D) (i : Nat) (x : Bool) : DevIs (W.setCell ⟨a.bg, i, none⟩ (.bool x)) a { D with bad := fun j => if j = i then x else D.bad j } := by
  obtain ⟨_, _, _, n4, _, _, n7, _, n9, n10⟩ := nd5 h.nd
  have g := grSet W a.bg i (.bool x)
  have r := h.bad.set i (.bool x)
  rw [rowOf_set] at r
  refine ⟨h.head.gr g (by simpa using n4), h.med.gr g (by simpa using n7), h.wear.gr g (by simpa using n10), ?_, h.buf.gr g (by simpa using n9), h.nd, ⟨h.ok.lo, h.ok.hi, h.ok.sup, h.ok.medB, h.ok.bufB, h.ok.fu⟩⟩
  have e : (fun j => if j = i then Value.bool x else Value.bool (D.bad j)) = fun j => Value.bool (if j = i then x else D.bad j) := by funext j; split <;> rfl
  rw [e] at r
  exact r
theorem DevIs.setMed (h : DevIs W a D) (i : Nat) (x : Nat) (hx : x < 18446744073709551616) : DevIs (W.setCell ⟨a.bm, i, none⟩ (.int .u64 (x : Int))) a { D with med := fun j => if j = i then x else D.med j } := by
  obtain ⟨n1, _, _, _, n5, n6, n7, _⟩ := nd5 h.nd
  have g := grSet W a.bm i (.int .u64 (x : Int))
  have r := h.med.set i (.int .u64 (x : Int))
  rw [rowOf_set] at r
  refine ⟨h.head.gr g (by simpa using n1), ?_, h.wear.gr g (by simpa using n6.symm), h.bad.gr g (by simpa using n7.symm), h.buf.gr g (by simpa using n5.symm), h.nd, ⟨h.ok.lo, h.ok.hi, h.ok.sup, ?_, h.ok.bufB, h.ok.fu⟩⟩
  · have e : (fun j => if j = i then Value.int IntKind.u64 (x : Int) else Value.int IntKind.u64 (D.med j : Int)) = fun j => Value.int IntKind.u64 ((if j = i then x else D.med j : Nat) : Int) := by funext j; split <;> rfl
    rw [e] at r
    exact r
  · intro j
    show (if j = i then x else D.med j) < _
    split
    · exact hx
    · exact h.ok.medB j
theorem DevIs.setWear (h : DevIs W a D) (i : Nat) (x : Int) : DevIs (W.setCell ⟨a.bw, i, none⟩ (.int .i64 x)) a { D with wear := fun j => if j = i then x else D.wear j } := by
  obtain ⟨_, _, n3, _, _, n6, _, n8, _, n10⟩ := nd5 h.nd
  have g := grSet W a.bw i (.int .i64 x)
  have r := h.wear.set i (.int .i64 x)
  rw [rowOf_set] at r
  refine ⟨h.head.gr g (by simpa using n3), h.med.gr g (by simpa using n6), ?_, h.bad.gr g (by simpa using n10.symm), h.buf.gr g (by simpa using n8), h.nd, ⟨h.ok.lo, h.ok.hi, h.ok.sup, h.ok.medB, h.ok.bufB, h.ok.fu⟩⟩
  have e : (fun j => if j = i then Value.int IntKind.i64 x else Value.int IntKind.i64 (D.wear j)) = fun j => Value.int IntKind.i64 (if j = i then x else D.wear j) := by funext j; split <;> rfl
  rw [e] at r
  exact r
theorem DevIs.setBuf {W' : World} {f : Int → Option (Nat × Bool)} (h : DevIs W a D) (m : MapZ cellE 3 W' a.bb D.cnt f) (g : Gr [a.bb] W W') (hs : ∀ z, f z ≠ none → 0 ≤ z ∧ z < 8 * D.n) (hb : ∀ z p, f z = some p → p.1 < 18446744073709551616) : DevIs W' a { D with buf := f } := by
  obtain ⟨_, n2, _, _, n5, _, _, n8, n9, _⟩ := nd5 h.nd
  exact ⟨h.head.gr g (by simpa using n2), h.med.gr g (by simpa using n5), h.wear.gr g (by simpa using n8.symm), h.bad.gr g (by simpa using n9.symm), m, h.nd, ⟨h.ok.lo, h.ok.hi, hs, h.ok.medB, hb, h.ok.fu⟩⟩
end

theorem fuse_any (a : DevA) (D : DevS) (z : Int) (hz : z ≤ 9223372036854775807) (w : World) (h : DevIs w a D) : Calls Try.prog 24 #[.pointer (some ⟨a.bd, 0, none⟩), .int .i64 z] w fun e w' => e = .returned (.tuple #[]) ∧ DevIs w' a { D with fuse := mx z } ∧ Gr [a.bd] w w' := by
  have c4 := h.c4
  have f4 := h.fr 4
  have hm : ∀ (ts : Array TypeId) (t : TypeId) (w : World), (Builtin.max_ ts t #[.int .i64 z, .int .i64 0]).run Try.prog w = .ok (.int .i64 (mx z)) w := by
    intro ts t w
    rw [run_max_int2]
    have : (if 0 > z then 0 else z) = mx z := by unfold mx; split <;> omega
    rw [this]
  have b := mx_nonneg z
  have b2 : mx z ≤ 9223372036854775807 := by unfold mx; omega
  have RR := Lib.hid (And.intro (h.setFuse (mx z) b b2) (grSet w a.bd 4 (.int .i64 (mx z))))
  clear h
  go_enter Try.func24, Try.ntmps24
  go_wp2
  go_returns
  exact ⟨rfl, RR.out.1, RR.out.2⟩
theorem fuse_nil (z : Int) (w : World) : Calls Try.prog 24 #[.pointer none, .int .i64 z] w fun e w' => e = .returned (.tuple #[]) ∧ w = w' := by
  go_enter Try.func24, Try.ntmps24
  go_wp2
  go_returns
  exact ⟨rfl, rfl⟩
theorem break_in (a : DevA) (D : DevS) (i : Nat) (w : World) (h : DevIs w a D) (hi : i < D.n) : Calls Try.prog 23 #[.pointer (some ⟨a.bd, 0, none⟩), .int .i64 i] w fun e w' => e = .returned (.tuple #[]) ∧ DevIs w' a { D with bad := fun j => if j = i then true else D.bad j } ∧ Gr [a.bg] w w' := by
  have hh := hasLine_any a D w h i
  rw [decide_eq_true (by omega)] at hh
  have H := Lib.hid hh
  have c3 := h.c3
  have m := h.badAt hi
  have fr := h.bad.frozen i
  have hn := h.ok.hi
  have RR := Lib.hid (And.intro (h.setBad i true) (grSet w a.bg i (.bool true)))
  clear h hh
  obtain ⟨n, hn'⟩ : ∃ n, D.n = n := ⟨_, rfl⟩
  rw [hn'] at c3 hi hn
  clear hn'
  go_enter Try.func23, Try.ntmps23
  go_wp2_with (refine H.out.mono ?_; rintro e w' ⟨rfl, rfl⟩)
  go_returns
  exact ⟨rfl, RR.out.1, RR.out.2⟩
theorem break_out (a : DevA) (D : DevS) (z : Int) (w : World) (h : DevIs w a D) (hz : ¬ (0 ≤ z ∧ z < D.n)) : Calls Try.prog 23 #[.pointer (some ⟨a.bd, 0, none⟩), .int .i64 z] w fun e w' => e = .returned (.tuple #[]) ∧ w = w' := by
  have hh := hasLine_any a D w h z
  rw [decide_eq_false hz] at hh
  have H := Lib.hid hh
  clear hh h hz
  go_enter Try.func23, Try.ntmps23
  go_wp2_with (refine H.out.mono ?_; rintro e w' ⟨rfl, rfl⟩)
  go_returns
  exact ⟨rfl, rfl⟩
theorem break_nil (z : Int) (w : World) : Calls Try.prog 23 #[.pointer none, .int .i64 z] w fun e w' => e = .returned (.tuple #[]) ∧ w = w' := by
  go_enter Try.func23, Try.ntmps23
  go_wp2_with (refine (hasLine_nil z _).mono ?_; rintro e w' ⟨rfl, rfl⟩)
  go_returns
  exact ⟨rfl, rfl⟩

end Go.Proofs.Ytgifjnniohcacaa
