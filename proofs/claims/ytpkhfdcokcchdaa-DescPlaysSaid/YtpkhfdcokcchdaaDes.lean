/-
  Contracts of package desc.
-/
import Derived.Test.YtpkhfdcokcchdaaDesP
namespace Go.Proofs.Ytpkhfdcokcchdaa
open Go.RowKit

theorem infoTab : (Try.prog.info? 176).map (fun i => (i.zero.map Value.cells, i.size, i.bytes)) = some (some (Array.replicate 48 (.int .i64 0)), 48, 384) := by kernel_rfl
theorem sizTab : (Try.prog.info? 176).map (·.size) = some 48 := by kernel_rfl
/-- Tables in memory. -/
structure Tabs (W : World) (bt br n : Nat) (D : Nat → Nat → Int × Int × Int) : Prop where
  head : Holds W bt #[.slice (some ⟨br, 0, none⟩) n n] 174
  row : Holds W br (rowF D n) 176
  ne : bt ≠ br
  lo : 1 ≤ n
  hi : n ≤ 8
theorem Tabs.gr {W W' : World} {bt br n : Nat} {D : Nat → Nat → Int × Int × Int} {bs : List Nat} (h : Tabs W bt br n D) (k : Gr bs W W') (h1 : bt ∉ bs) (h2 : br ∉ bs) : Tabs W' bt br n D := ⟨h.head.gr k h1, h.row.gr k h2, h.ne, h.lo, h.hi⟩
theorem Tabs.gr0 {W W' : World} {bt br n : Nat} {D : Nat → Nat → Int × Int × Int} (h : Tabs W bt br n D) (k : Gr [] W W') : Tabs W' bt br n D := h.gr k (by simp) (by simp)

set_option maxHeartbeats 1000000 in
theorem dnew_no (n : Int) (w : World) (h : n < 1 ∨ 8 < n) :
    Calls Try.prog 59 #[.int .i64 n] w fun e w' => e = .returned (.tuple #[.pointer none, .int .i64 2]) ∧ w = w' := by
  rcases h with h | h
  · go_enter Try.func59, Try.ntmps59
    go_wp2
    go_ret2
    exact ⟨rfl, rfl⟩
  · have h' : ¬ n < 1 := by omega
    go_enter Try.func59, Try.ntmps59
    go_wp2
    go_ret2
    exact ⟨rfl, rfl⟩
set_option maxHeartbeats 1000000 in
set_option maxRecDepth 20000 in
theorem dnew_yes (n : Nat) (w : World) (h1 : 1 ≤ n) (h8 : n ≤ 8) :
    Calls Try.prog 59 #[.int .i64 n] w fun e w' => ∃ bt br : Nat, e = .returned (.tuple #[.pointer (some ⟨bt, 0, none⟩), .int .i64 0]) ∧ Tabs w' bt br n noneD ∧ w.heap.size ≤ bt ∧ w.heap.size ≤ br ∧ Gr [] w w' := by
  obtain ⟨i0, hi, hz⟩ := Option.map_eq_some_iff.1 infoTab
  obtain ⟨z, hz0, hzc⟩ : ∃ z, i0.zero = some z ∧ z.cells = Array.replicate 48 (.int .i64 0) := by
    have : i0.zero.map Value.cells = some (Array.replicate 48 (.int .i64 0)) := by simpa using congrArg (·.1) hz
    obtain ⟨z, a, b⟩ := Option.map_eq_some_iff.1 this
    exact ⟨z, a, b⟩
  have hz1 : i0.size = 48 := by simpa using congrArg (·.2.1) hz
  have hz2 : i0.bytes = 384 := by simpa using congrArg (·.2.2) hz
  clear hz
  go_enter Try.func59, Try.ntmps59
  go_wp2_with (refine wpList_make_full _ rfl _ _ 172 rfl w.heap.size 176 i0 z 48 Try.underlying172 hi hz0 hz1 .i64 .i64 _ _ n rfl rfl rfl rfl (by rw [hz2]; omega) (by unfold maxLen; omega) (by simp) ?_; intro wm hown hgrow)
  have HR := own_holds hown
  rw [made48 n _ hzc] at HR
  have HG : Gr [] w wm := (Gr.refl _ _).grown hgrow (fun k hk => by cases hk)
  have hz := HG.size
  have hlt := HR.lt
  have HG2 := HG.alloc (Obj.cells #[.slice (some ⟨w.heap.size, 0, none⟩) n n] 174)
  have HR2 := HR.alloc (Obj.cells #[.slice (some ⟨w.heap.size, 0, none⟩) n n] 174)
  have HH := Holds.new wm #[.slice (some ⟨w.heap.size, 0, none⟩) n n] 174
  go_ret2
  exact ⟨wm.heap.size, w.heap.size, rfl, ⟨HH, HR2, by omega, h1, h8⟩, by omega, by omega, HG2⟩

theorem clients_any (bt br n : Nat) (D : Nat → Nat → Int × Int × Int) (w : World) (h : Tabs w bt br n D) :
    Calls Try.prog 106 #[.pointer (some ⟨bt, 0, none⟩)] w fun e w' => e = .returned (.int .i64 n) ∧ w = w' := by
  have c0 : w.cell? ⟨bt, 0, none⟩ = some (.slice (some ⟨br, 0, none⟩) n n) := h.head.cell 0
  go_enter Try.func106, Try.ntmps106
  go_wp2
  go_ret
  exact ⟨rfl, rfl⟩
theorem clients_nil (w : World) :
    Calls Try.prog 106 #[.pointer none] w fun e w' => e = .returned (.int .i64 0) ∧ w = w' := by
  go_enter Try.func106, Try.ntmps106
  go_wp2
  go_ret
  exact ⟨rfl, rfl⟩
theorem has_yes (bt br n c : Nat) (D : Nat → Nat → Int × Int × Int) (w : World) (h : Tabs w bt br n D) (hc : c < n) :
    Calls Try.prog 105 #[.pointer (some ⟨bt, 0, none⟩), .int .i64 c] w fun e w' => e = .returned (.bool true) ∧ w = w' := by
  have H := Lib.hid h
  clear h
  go_enter Try.func105, Try.ntmps105
  go_wp2_with (refine (clients_any _ _ _ _ _ H.out).mono ?_; rintro e w' ⟨rfl, rfl⟩)
  go_ret
  exact ⟨rfl, rfl⟩
theorem has_no (bt br n : Nat) (c : Int) (D : Nat → Nat → Int × Int × Int) (w : World) (h : Tabs w bt br n D) (hc : c < 0 ∨ n ≤ c) :
    Calls Try.prog 105 #[.pointer (some ⟨bt, 0, none⟩), .int .i64 c] w fun e w' => e = .returned (.bool false) ∧ w = w' := by
  have H := Lib.hid h
  clear h
  rcases hc with hc | hc
  · have hd : decide (0 ≤ c) = false := by simp; omega
    go_enter Try.func105, Try.ntmps105
    go_wp2_with (refine (clients_any _ _ _ _ _ H.out).mono ?_; rintro e w' ⟨rfl, rfl⟩)
    go_ret
    exact ⟨rfl, rfl⟩
  · have hd : decide (0 ≤ c) = true := by simp; omega
    have hd2 : decide (c < (n : Int)) = false := by simp; omega
    go_enter Try.func105, Try.ntmps105
    go_wp2_with (refine (clients_any _ _ _ _ _ H.out).mono ?_; rintro e w' ⟨rfl, rfl⟩)
    go_ret
    exact ⟨rfl, rfl⟩
theorem has_nil (c : Int) (w : World) :
    Calls Try.prog 105 #[.pointer none, .int .i64 c] w fun e w' => e = .returned (.bool false) ∧ w = w' := by
  by_cases hc : 0 ≤ c
  · have hd : decide (0 ≤ c) = true := by simpa using hc
    have hd2 : decide (c < (0 : Int)) = false := by simp; omega
    go_enter Try.func105, Try.ntmps105
    go_wp2_with (refine (clients_nil _).mono ?_; rintro e w' ⟨rfl, rfl⟩)
    go_ret
    exact ⟨rfl, rfl⟩
  · have hd : decide (0 ≤ c) = false := by simp; omega
    go_enter Try.func105, Try.ntmps105
    go_wp2_with (refine (clients_nil _).mono ?_; rintro e w' ⟨rfl, rfl⟩)
    go_ret
    exact ⟨rfl, rfl⟩

theorem Tabs.c0 {W : World} {bt br n : Nat} {D : Nat → Nat → Int × Int × Int} (h : Tabs W bt br n D) : W.cell? ⟨bt, 0, none⟩ = some (.slice (some ⟨br, 0, none⟩) n n) := h.head.cell 0
theorem Tabs.k {W : World} {bt br n : Nat} {D : Nat → Nat → Int × Int × Int} (h : Tabs W bt br n D) {c f : Nat} (hc : c < n) (hf : f < 16) :
    W.cell? ⟨br, c * 48 + f * 3, none⟩ = some (.int .i64 (D c f).1) ∧ W.cell? ⟨br, c * 48 + f * 3 + 1, none⟩ = some (.int .i64 (D c f).2.1) ∧ W.cell? ⟨br, c * 48 + f * 3 + 2, none⟩ = some (.int .i64 (D c f).2.2) := by
  have a := rowF_cell h.row hc (show 3 * f < 48 by omega)
  have b := rowF_cell h.row hc (show 3 * f + 1 < 48 by omega)
  have d := rowF_cell h.row hc (show 3 * f + 2 < 48 by omega)
  rw [cellT0] at a
  rw [cellT1] at b
  rw [cellT2] at d
  refine ⟨?_, ?_, ?_⟩
  · rw [show c * 48 + f * 3 = 48 * c + 3 * f by omega]; exact a
  · rw [show c * 48 + f * 3 + 1 = 48 * c + (3 * f + 1) by omega]; exact b
  · rw [show c * 48 + f * 3 + 2 = 48 * c + (3 * f + 2) by omega]; exact d

set_option maxHeartbeats 1000000 in
theorem get_ok (bt br n c f : Nat) (D : Nat → Nat → Int × Int × Int) (w : World) (h : Tabs w bt br n D) (hc : c < n) (hf : f < 16) (hF : (D c f).2.1 ≠ 0) :
    Calls Try.prog 63 #[.pointer (some ⟨bt, 0, none⟩), .int .i64 c, .int .i64 f] w fun e w' => e = .returned (.tuple #[.agg #[.int .i64 (D c f).1, .int .i64 (D c f).2.1, .int .i64 (D c f).2.2], .int .i64 0]) ∧ Gr [] w w' := by
  have HT := Lib.hid (h.gr0 ((Gr.refl _ w).alloc (Obj.cells #[.int .i64 0, .int .i64 0, .int .i64 0] 122)))
  have HG := Lib.hid ((Gr.refl [] w).alloc (Obj.cells #[.int .i64 0, .int .i64 0, .int .i64 0] 122))
  have HR := Lib.hid (Holds.new w #[.int .i64 0, .int .i64 0, .int .i64 0] 122)
  have hn8 := h.hi
  clear h
  go_enter Try.func63, Try.ntmps63
  go_wp2_with fail
  refine (has_yes _ _ _ _ _ _ HT.out hc).mono ?_
  rintro e w' ⟨rfl, rfl⟩
  generalize w.alloc (Obj.cells #[.int .i64 0, .int .i64 0, .int .i64 0] 122) = wa at *
  have t0 := HT.out.c0
  obtain ⟨k0, k1, k2⟩ := HT.out.k hc hf
  have r0 : wa.cell? ⟨w.heap.size, 0, none⟩ = some (.int .i64 0) := HR.out.cell 0
  have r1 : wa.cell? ⟨w.heap.size, 1, none⟩ = some (.int .i64 0) := HR.out.cell 1
  have r2 : wa.cell? ⟨w.heap.size, 2, none⟩ = some (.int .i64 0) := HR.out.cell 2
  have f0 := HR.out.frozen 0
  have f1 := HR.out.frozen 1
  have f2 := HR.out.frozen 2
  obtain ⟨v, hv⟩ : ∃ v, D c f = v := ⟨_, rfl⟩
  rw [hv] at hF k0 k1 k2
  obtain ⟨N, F, A⟩ := v
  simp only at hF k0 k1 k2
  have HV := Lib.hid hv
  clear hv
  have hd1 : decide ((f : Int) < 0) = false := by simp
  have hd2 : decide ((16 : Int) ≤ (f : Int)) = false := by simp; omega
  have hd3 : (F == 0) = false := by simpa using hF
  go_wp2_with fail
  exact bodyPost_ret (v := .tuple #[.agg #[.int .i64 N, .int .i64 F, .int .i64 A], .int .i64 0]) (by simp [results, Try.results63, go_sem, *]) rfl
    ⟨by rw [HV.out], ((HG.out.setCell (p := ⟨w.heap.size, 0, none⟩) (.inr (Nat.le_refl _)) _).setCell (p := ⟨w.heap.size, 1, none⟩) (.inr (Nat.le_refl _)) _).setCell (p := ⟨w.heap.size, 2, none⟩) (.inr (Nat.le_refl _)) _⟩

/-- What Get answers where there is none. -/
theorem get_nil (c f : Int) (w : World) :
    Calls Try.prog 63 #[.pointer none, .int .i64 c, .int .i64 f] w fun e w' => e = .returned (.tuple #[.agg #[.int .i64 0, .int .i64 0, .int .i64 0], .int .i64 1]) ∧ Gr [] w w' := by
  have HG := Lib.hid ((Gr.refl [] w).alloc (Obj.cells #[.int .i64 0, .int .i64 0, .int .i64 0] 122))
  go_enter Try.func63, Try.ntmps63
  go_wp2_with fail
  exact bodyPost_ret (v := .tuple #[.agg #[.int .i64 0, .int .i64 0, .int .i64 0], .int .i64 1]) (by simp [results, Try.results63, go_sem, *]) rfl ⟨rfl, HG.out⟩
set_option maxHeartbeats 1000000 in
theorem get_arg (bt br n : Nat) (c f : Int) (D : Nat → Nat → Int × Int × Int) (w : World) (h : Tabs w bt br n D) (hc : c < 0 ∨ n ≤ c) :
    Calls Try.prog 63 #[.pointer (some ⟨bt, 0, none⟩), .int .i64 c, .int .i64 f] w fun e w' => e = .returned (.tuple #[.agg #[.int .i64 0, .int .i64 0, .int .i64 0], .int .i64 2]) ∧ Gr [] w w' := by
  have HT := Lib.hid (h.gr0 ((Gr.refl _ w).alloc (Obj.cells #[.int .i64 0, .int .i64 0, .int .i64 0] 122)))
  have HG := Lib.hid ((Gr.refl [] w).alloc (Obj.cells #[.int .i64 0, .int .i64 0, .int .i64 0] 122))
  have HC := Lib.hid hc
  clear h hc
  go_enter Try.func63, Try.ntmps63
  go_wp2_with fail
  refine (has_no _ _ _ _ _ _ HT.out HC.out).mono ?_
  rintro e w' ⟨rfl, rfl⟩
  go_wp2_with fail
  exact bodyPost_ret (v := .tuple #[.agg #[.int .i64 0, .int .i64 0, .int .i64 0], .int .i64 2]) (by simp [results, Try.results63, go_sem, *]) rfl ⟨rfl, HG.out⟩
set_option maxHeartbeats 1000000 in
theorem get_bad (bt br n c : Nat) (f : Int) (D : Nat → Nat → Int × Int × Int) (w : World) (h : Tabs w bt br n D) (hc : c < n) (hf : (f < 0 ∨ 16 ≤ f) ∨ (0 ≤ f ∧ f < 16 ∧ (D c f.toNat).2.1 = 0)) :
    Calls Try.prog 63 #[.pointer (some ⟨bt, 0, none⟩), .int .i64 c, .int .i64 f] w fun e w' => e = .returned (.tuple #[.agg #[.int .i64 0, .int .i64 0, .int .i64 0], .int .i64 19]) ∧ Gr [] w w' := by
  have HT := Lib.hid (h.gr0 ((Gr.refl _ w).alloc (Obj.cells #[.int .i64 0, .int .i64 0, .int .i64 0] 122)))
  have HG := Lib.hid ((Gr.refl [] w).alloc (Obj.cells #[.int .i64 0, .int .i64 0, .int .i64 0] 122))
  have hn8 := h.hi
  clear h
  rcases hf with (hf | hf) | ⟨h0, h16, hF⟩
  · have hd : decide (f < 0) = true := by simpa using hf
    go_enter Try.func63, Try.ntmps63
    go_wp2_with fail
    refine (has_yes _ _ _ _ _ _ HT.out hc).mono ?_
    rintro e w' ⟨rfl, rfl⟩
    go_wp2_with fail
    exact bodyPost_ret (v := .tuple #[.agg #[.int .i64 0, .int .i64 0, .int .i64 0], .int .i64 19]) (by simp [results, Try.results63, go_sem, *]) rfl ⟨rfl, HG.out⟩
  · have hd : decide (f < 0) = false := by simp; omega
    have hd2 : decide (16 ≤ f) = true := by simpa using hf
    go_enter Try.func63, Try.ntmps63
    go_wp2_with fail
    refine (has_yes _ _ _ _ _ _ HT.out hc).mono ?_
    rintro e w' ⟨rfl, rfl⟩
    go_wp2_with fail
    exact bodyPost_ret (v := .tuple #[.agg #[.int .i64 0, .int .i64 0, .int .i64 0], .int .i64 19]) (by simp [results, Try.results63, go_sem, *]) rfl ⟨rfl, HG.out⟩
  · obtain ⟨f, rfl⟩ := Int.eq_ofNat_of_zero_le h0
    have hf16 : f < 16 := by omega
    rw [Int.toNat_natCast] at hF
    have hR := Holds.new w #[.int .i64 0, .int .i64 0, .int .i64 0] 122
    have HR := Lib.hid hR
    clear hR
    go_enter Try.func63, Try.ntmps63
    go_wp2_with fail
    refine (has_yes _ _ _ _ _ _ HT.out hc).mono ?_
    rintro e w' ⟨rfl, rfl⟩
    generalize w.alloc (Obj.cells #[.int .i64 0, .int .i64 0, .int .i64 0] 122) = wa at *
    have t0 := HT.out.c0
    obtain ⟨-, k1, -⟩ := HT.out.k hc hf16
    rw [hF] at k1
    have r0 : wa.cell? ⟨w.heap.size, 0, none⟩ = some (.int .i64 0) := HR.out.cell 0
    have r1 : wa.cell? ⟨w.heap.size, 1, none⟩ = some (.int .i64 0) := HR.out.cell 1
    have r2 : wa.cell? ⟨w.heap.size, 2, none⟩ = some (.int .i64 0) := HR.out.cell 2
    have f0 := HR.out.frozen 0
    have f1 := HR.out.frozen 1
    have f2 := HR.out.frozen 2
    have hd1 : decide ((f : Int) < 0) = false := by simp
    have hd2 : decide ((16 : Int) ≤ (f : Int)) = false := by simp; omega
    clear hF h0 h16
    go_wp2_with fail
    exact bodyPost_ret (v := .tuple #[.agg #[.int .i64 0, .int .i64 0, .int .i64 0], .int .i64 19]) (by simp [results, Try.results63, go_sem, *]) rfl
      ⟨rfl, ((HG.out.setCell (p := ⟨w.heap.size, 0, none⟩) (.inr (Nat.le_refl _)) _).setCell (p := ⟨w.heap.size, 1, none⟩) (.inr (Nat.le_refl _)) _).setCell (p := ⟨w.heap.size, 2, none⟩) (.inr (Nat.le_refl _)) _⟩

end Go.Proofs.Ytpkhfdcokcchdaa
