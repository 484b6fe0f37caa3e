/-
  Contracts of package desc: Add where it refuses, List, Count.
-/
import Derived.Test.YtpkhfdcokcchdaaDesC
import Derived.Laws.AppendOwn
namespace Go.Proofs.Ytpkhfdcokcchdaa
open Go.RowKit

theorem infoInt_ : (Try.prog.info? 3).map (fun i => (i.zero, i.size, i.bytes)) = some (some (.int .i64 0), 1, 8) := by kernel_rfl

theorem add_nil (c N F : Value) (w : World) :
    Calls Try.prog 61 #[.pointer none, c, N, F] w fun e w' => e = .returned (.tuple #[.int .i64 0, .int .i64 1]) ∧ w = w' := by
  go_enter Try.func61, Try.ntmps61
  go_wp2_with fail
  go_ret2
  exact ⟨rfl, rfl⟩
set_option maxHeartbeats 1000000 in
theorem add_arg (bt br n : Nat) (c N F : Int) (D : Nat → Nat → Int × Int × Int) (w : World) (h : Tabs w bt br n D) (hb : (c < 0 ∨ n ≤ c) ∨ F < 1 ∨ 7 < F) :
    Calls Try.prog 61 #[.pointer (some ⟨bt, 0, none⟩), .int .i64 c, .int .i64 N, .int .i64 F] w fun e w' => e = .returned (.tuple #[.int .i64 0, .int .i64 2]) ∧ w = w' := by
  by_cases hc : c < 0 ∨ n ≤ c
  · have HN := Lib.hid (fun w (h : Tabs w bt br n D) => has_no bt br n c D w h hc)
    have H := Lib.hid h
    clear h hb hc
    go_enter Try.func61, Try.ntmps61
    go_wp2_with fail
    refine (HN.out _ H.out).mono ?_
    rintro e w' ⟨rfl, rfl⟩
    go_wp2_with fail
    go_ret2
    exact ⟨rfl, rfl⟩
  · obtain ⟨k, rfl⟩ := Int.eq_ofNat_of_zero_le (show 0 ≤ c by omega)
    have hk : k < n := by omega
    have HN := Lib.hid (fun w (h : Tabs w bt br n D) => has_yes bt br n k D w h hk)
    have H := Lib.hid h
    have hbF : F < 1 ∨ 7 < F := by omega
    clear h hb hc
    rcases hbF with hF | hF
    · have hd1 : decide (F < 1) = true := by simpa using hF
      go_enter Try.func61, Try.ntmps61
      go_wp2_with fail
      refine (HN.out _ H.out).mono ?_
      rintro e w' ⟨rfl, rfl⟩
      go_wp2_with fail
      go_ret2
      exact ⟨rfl, rfl⟩
    · have hd1 : decide (F < 1) = false := by simp; omega
      have hd2 : decide (7 < F) = true := by simpa using hF
      go_enter Try.func61, Try.ntmps61
      go_wp2_with fail
      refine (HN.out _ H.out).mono ?_
      rintro e w' ⟨rfl, rfl⟩
      go_wp2_with fail
      go_ret2
      exact ⟨rfl, rfl⟩

set_option maxRecDepth 20000 in
set_option maxHeartbeats 1000000 in
theorem add_full (bt br n c : Nat) (N F : Int) (D : Nat → Nat → Int × Int × Int) (w : World) (h : Tabs w bt br n D) (hc : c < n) (hF1 : 1 ≤ F) (hF7 : F ≤ 7) (hall : ∀ g, g < 16 → (D c g).2.1 ≠ 0) :
    Calls Try.prog 61 #[.pointer (some ⟨bt, 0, none⟩), .int .i64 c, .int .i64 N, .int .i64 F] w fun e w' => e = .returned (.tuple #[.int .i64 0, .int .i64 7]) ∧ Gr [] w w' := by
  have HT := Lib.hid h
  have hn8 := h.hi
  have HA := Lib.hid hall
  have t0 := h.c0
  have HRng := Lib.hid (tab_rng h hc)
  have HI := Lib.hid (fun j (hj : j < 16) (W : World) => tab_index (D c) j hj W)
  have hd1 : decide (F < 1) = false := by simp; omega
  have hd2 : decide (7 < F) = false := by simp; omega
  clear h hall
  go_enter Try.func61, Try.ntmps61
  go_wp2_with fail
  refine (has_yes _ _ _ _ _ _ HT.out hc).mono ?_
  rintro e w' ⟨rfl, rfl⟩
  go_wp2_with (refine wpList_load_mid rfl 176 _ rfl br (c * 48) rfl (tabL (D c)) _ HRng.out Try.underlying176 rfl (by rw [tabL_len]; exact sizTab) ?_)
  generalize (tabL (D c)).toArray = TB at *
  clear t0
  go_loopw [33] (fun i wr => ∃ j : Nat, j ≤ 16 ∧ i = .int .i64 j ∧ Gr [] w wr) (fun i _ => 16 - (intOf i).toNat)
  case atStart => exact ⟨0, by omega, rfl, Gr.refl _ _⟩
  case round =>
    obtain ⟨j, hj, rfl, G1⟩ := hrel
    by_cases hlt : j < 16
    · have hix := HI.out j (by omega)
      have hne := HA.out j hlt
      have HG := Lib.hid G1
      clear G1
      generalize D c j = v at *
      obtain ⟨vN, vF, vA⟩ := v
      simp only at hne hix
      have hd : (vF == 0) = false := by simpa using hne
      go_wp2
      go_roundw
      case rel => exact ⟨j + 1, by omega, by go_num, HG.out.alloc _⟩
      case measure => simp [intOf]; omega
    · obtain rfl : j = 16 := by omega
      have HG := Lib.hid G1
      clear G1
      go_wp2_with fail
      go_ret2
      exact ⟨rfl, HG.out⟩

/-! ### List -/
def fdL (t : Nat → Int × Int × Int) (j : Nat) : List Nat := (List.range j).filter fun f => (t f).2.1 != 0
def iV (k : Nat) : Value := .int .i64 (k : Int)
theorem fdL_succ (t : Nat → Int × Int × Int) (j : Nat) : fdL t (j + 1) = if (t j).2.1 = 0 then fdL t j else fdL t j ++ [j] := by
  unfold fdL
  rw [List.range_succ, List.filter_append]
  by_cases c : (t j).2.1 = 0
  · simp [c]
  · simp [c]
theorem fdL_len (t : Nat → Int × Int × Int) (j : Nat) : (fdL t j).length ≤ j := by
  have := List.length_filter_le (fun f => (t f).2.1 != 0) (List.range j)
  simpa [fdL] using this
theorem list_nil (c : Int) (w : World) :
    Calls Try.prog 107 #[.pointer none, .int .i64 c] w fun e w' => e = .returned (.slice none 0 0) ∧ w = w' := by
  have H := Lib.hid (fun w => has_nil c w)
  go_enter Try.func107, Try.ntmps107
  go_wp2_with fail
  refine (H.out _).mono ?_
  rintro e w' ⟨rfl, rfl⟩
  go_wp2_with fail
  go_ret
  exact ⟨rfl, rfl⟩
theorem list_no (bt br n : Nat) (c : Int) (D : Nat → Nat → Int × Int × Int) (w : World) (h : Tabs w bt br n D) (hc : c < 0 ∨ n ≤ c) :
    Calls Try.prog 107 #[.pointer (some ⟨bt, 0, none⟩), .int .i64 c] w fun e w' => e = .returned (.slice none 0 0) ∧ w = w' := by
  have H := Lib.hid (fun w (h : Tabs w bt br n D) => has_no bt br n c D w h hc)
  have HT := Lib.hid h
  clear h hc
  go_enter Try.func107, Try.ntmps107
  go_wp2_with fail
  refine (H.out _ HT.out).mono ?_
  rintro e w' ⟨rfl, rfl⟩
  go_wp2_with fail
  go_ret
  exact ⟨rfl, rfl⟩

set_option maxRecDepth 20000 in
set_option maxHeartbeats 1000000 in
theorem list_ok (bt br n c : Nat) (D : Nat → Nat → Int × Int × Int) (w : World) (h : Tabs w bt br n D) (hc : c < n) :
    Calls Try.prog 107 #[.pointer (some ⟨bt, 0, none⟩), .int .i64 c] w fun e w' => ∃ v, e = .returned v ∧ w'.ownsRow w.heap.size 3 1 v (fdL (D c) 16).length ((fdL (D c) 16).map iV) ∧ Gr [] w w' := by
  obtain ⟨i0, hi, hz0, hz1, hz2⟩ := info_parts infoInt_
  have HT := Lib.hid h
  have hn8 := h.hi
  have t0 := h.c0
  have HRng := Lib.hid (tab_rng h hc)
  have HI := Lib.hid (fun j (hj : j < 16) (W : World) => tab_index (D c) j hj W)
  have HS := Lib.hid (fun j => fdL_succ (D c) j)
  clear h
  go_enter Try.func107, Try.ntmps107
  go_wp2_with fail
  refine (has_yes _ _ _ _ _ _ HT.out hc).mono ?_
  rintro e w' ⟨rfl, rfl⟩
  go_wp2_with (refine wpList_load_mid rfl 176 _ rfl br (c * 48) rfl (tabL (D c)) _ HRng.out Try.underlying176 rfl (by rw [tabL_len]; exact sizTab) ?_)
  generalize (tabL (D c)).toArray = TB at *
  clear t0 HRng
  go_loopw [5, 19] (fun l i wr => ∃ j : Nat, j ≤ 16 ∧ i = .int .i64 j ∧ wr.ownsRow w.heap.size 3 1 l (fdL (D c) j).length ((fdL (D c) j).map iV) ∧ Gr [] w wr) (fun _ i _ => 16 - (intOf i).toNat)
  case atStart => exact ⟨0, by omega, rfl, World.ownsRow_nil _ _ _ _, Gr.refl _ _⟩
  case round =>
    obtain ⟨j, hj, rfl, hown, G1⟩ := hrel
    by_cases hlt : j < 16
    · have hix := HI.out j (by omega)
      have hsuc := HS.out j
      have hlen := fdL_len (D c) j
      by_cases hne : (D c j).2.1 = 0
      · rw [if_pos hne] at hsuc
        have HG := Lib.hid (And.intro (hown.alloc (Obj.cells #[.int .i64 (D c j).1, .int .i64 (D c j).2.1, .int .i64 (D c j).2.2] 122)) (And.intro (G1.alloc (Obj.cells #[.int .i64 (D c j).1, .int .i64 (D c j).2.1, .int .i64 (D c j).2.2] 122)) hsuc))
        clear G1 hown hsuc
        generalize D c j = v at *
        obtain ⟨vN, vF, vA⟩ := v
        simp only at hne hix
        subst hne
        go_wp2
        go_roundw
        case rel => exact ⟨j + 1, by omega, by go_num, by rw [HG.out.2.2]; exact HG.out.1, HG.out.2.1⟩
        case measure => simp [intOf]; omega
      · rw [if_neg hne] at hsuc
        have HSU := Lib.hid hsuc
        clear hsuc
        have G2 := G1.alloc (Obj.cells #[.int .i64 (D c j).1, .int .i64 (D c j).2.1, .int .i64 (D c j).2.2] 122)
        have hown2 := hown.alloc (Obj.cells #[.int .i64 (D c j).1, .int .i64 (D c j).2.1, .int .i64 (D c j).2.2] 122)
        have hd : ((D c j).2.1 == 0) = false := by simpa using hne
        have hd2 : ((D c j).2.1 != 0) = true := by simpa using hne
        have hz := G1.size
        clear G1 hown hne
        generalize D c j = v at *
        go_wp2_with (at_builtin; refine wpList_append_own _ rfl _ _ 47 rfl w.heap.size 3 i0 (.int .i64 0) 1 8 Try.underlying47 hi hz0 hz1 hz2 rfl (by decide) _ _ _ rfl (hown2.alloc _) ⟨wr.heap.size + 1, 0, none⟩ 1 1 [.int .i64 j] rfl rfl ?c1 ?c2 ?c3 ?c4 ?c5 ?_)
        case c1 =>
          intro a u ha
          match a, ha with
          | 0, ha => simp at ha; subst ha; simp [Addr.add]
        case c2 => intro u hu; simp at hu; subst hu; rfl
        case c3 => unfold maxLen; omega
        case c4 => omega
        case c5 => simp; omega
        intro v' w1 hown3 hgrow _
        have RR := Lib.hid (And.intro (show w1.ownsRow w.heap.size 3 1 v' (fdL (D c) (j + 1)).length ((fdL (D c) (j + 1)).map iV) by rw [HSU.out, List.map_append, List.length_append]; exact hown3)
          ((G2.alloc _).grown hgrow (fun g hg => .inr (hown2.lt g hg).1)))
        clear hown3 hgrow hown2 G2
        go_wp2
        go_roundw
        case rel => exact ⟨j + 1, by omega, by go_num, RR.out.1, RR.out.2⟩
        case measure => simp [intOf]; omega
    · obtain rfl : j = 16 := by omega
      have HG := Lib.hid (And.intro hown G1)
      clear hown G1
      go_wp2_with fail
      go_ret
      exact ⟨_, rfl, HG.out.1, HG.out.2⟩

end Go.Proofs.Ytpkhfdcokcchdaa
