/-
  Contracts of package desc: Add.
-/
import Derived.Test.YtpkhfdcokcchdaaDesB
import Derived.Deep.LoopGhost
namespace Go.Proofs.Ytpkhfdcokcchdaa
open Go.RowKit

def entV (t : Nat → Int × Int × Int) (j : Nat) : Value := .agg #[.int .i64 (t j).1, .int .i64 (t j).2.1, .int .i64 (t j).2.2]
set_option maxRecDepth 100000 in
theorem tab_index (t : Nat → Int × Int × Int) (j : Nat) (hj : j < 16) (W : World) :
    (Instr.index 176 (.agg (tabL t).toArray) (.int .i64 (j : Int))).run Try.prog W = .ok (.agg #[.int .i64 (t j).1, .int .i64 (t j).2.1, .int .i64 (t j).2.2]) W :=
  match j, hj with
  | 0, _ => by show _ = _; kernel_rfl
  | 1, _ => by show _ = _; kernel_rfl
  | 2, _ => by show _ = _; kernel_rfl
  | 3, _ => by show _ = _; kernel_rfl
  | 4, _ => by show _ = _; kernel_rfl
  | 5, _ => by show _ = _; kernel_rfl
  | 6, _ => by show _ = _; kernel_rfl
  | 7, _ => by show _ = _; kernel_rfl
  | 8, _ => by show _ = _; kernel_rfl
  | 9, _ => by show _ = _; kernel_rfl
  | 10, _ => by show _ = _; kernel_rfl
  | 11, _ => by show _ = _; kernel_rfl
  | 12, _ => by show _ = _; kernel_rfl
  | 13, _ => by show _ = _; kernel_rfl
  | 14, _ => by show _ = _; kernel_rfl
  | 15, _ => by show _ = _; kernel_rfl
  | k + 16, hj => absurd hj (by omega)
theorem tab_rng {W : World} {bt br n : Nat} {D : Nat → Nat → Int × Int × Int} (h : Tabs W bt br n D) {c : Nat} (hc : c < n) : W.rangeAt br (c * 48) (tabL (D c)) := by
  have r := rowF_range h.row hc
  rwa [show 48 * c = c * 48 by omega] at r

set_option maxRecDepth 20000 in
set_option maxHeartbeats 1000000 in
theorem add_ok (bt br n c k : Nat) (N F : Int) (D : Nat → Nat → Int × Int × Int) (w : World) (h : Tabs w bt br n D) (hc : c < n) (hF1 : 1 ≤ F) (hF7 : F ≤ 7) (hk : k < 16) (h0 : (D c k).2.1 = 0) (hall : ∀ g, g < k → (D c g).2.1 ≠ 0) :
    Calls Try.prog 61 #[.pointer (some ⟨bt, 0, none⟩), .int .i64 c, .int .i64 N, .int .i64 F] w fun e w' => e = .returned (.tuple #[.int .i64 k, .int .i64 0]) ∧ Tabs w' bt br n (updD D c k (N, F, 0)) ∧ Gr [br] w w' := by
  have HT := Lib.hid h
  have hn8 := h.hi
  have HA := Lib.hid hall
  have H0 := Lib.hid h0
  have t0 := h.c0
  have HRng := Lib.hid (tab_rng h hc)
  have HI := Lib.hid (fun j (hj : j < 16) (W : World) => tab_index (D c) j hj W)
  have hd1 : decide (F < 1) = false := by simp; omega
  have hd2 : decide (7 < F) = false := by simp; omega
  clear h hall h0
  go_enter Try.func61, Try.ntmps61
  go_wp2_with fail
  refine (has_yes _ _ _ _ _ _ HT.out hc).mono ?_
  rintro e w' ⟨rfl, rfl⟩
  go_wp2_with (refine wpList_load_mid rfl 176 _ rfl br (c * 48) rfl (tabL (D c)) _ HRng.out Try.underlying176 rfl (by rw [tabL_len]; exact sizTab) ?_)
  generalize (tabL (D c)).toArray = TB at *
  clear t0
  go_loopw [33] (fun i wr => ∃ j : Nat, j ≤ k ∧ i = .int .i64 j ∧ Tabs wr bt br n D ∧ Gr [] w wr) (fun i _ => k + 1 - (intOf i).toNat)
  case atStart => exact ⟨0, by omega, rfl, HT.out, Gr.refl _ _⟩
  case round =>
    obtain ⟨j, hj, rfl, T1, G1⟩ := hrel
    have hix := HI.out j (by omega)
    have hlt : j < 16 := by omega
    have l1 := T1.row.lt
    have l2 := T1.head.lt
    have m1 : br ≠ wr.heap.size := by omega
    have m2 : bt ≠ wr.heap.size := by omega
    have t0 := T1.c0
    obtain ⟨k0, k1, k2⟩ := T1.k hc hlt
    have f0 := T1.fr (c * 48 + j * 3)
    have f1 := T1.fr (c * 48 + j * 3 + 1)
    have f2 := T1.fr (c * 48 + j * 3 + 2)
    by_cases hjk : j < k
    · have hne := HA.out j hjk
      have HG := Lib.hid (And.intro T1 G1)
      clear T1 G1
      generalize D c j = v at *
      obtain ⟨vN, vF, vA⟩ := v
      simp only at hne k0 k1 k2 hix
      have hd : (vF == 0) = false := by simpa using hne
      go_wp2
      go_roundw
      case rel => exact ⟨j + 1, by omega, by go_num, HG.out.1.gr0 ((Gr.refl _ _).alloc _), HG.out.2.alloc _⟩
      case measure => simp [intOf]; omega
    · obtain rfl : j = k := by omega
      have RR := Lib.hid (T1.set3 hc hlt (N, F, 0))
      have HG := Lib.hid G1
      clear T1 G1
      have hz := H0.out
      clear H0
      generalize D c j = v at *
      obtain ⟨vN, vF, vA⟩ := v
      simp only at hz k0 k1 k2 hix
      subst hz
      go_wp2_with fail
      go_ret2
      exact ⟨rfl, RR.out.1.gr0 ((Gr.refl _ _).alloc _), (HG.out.of0.trans RR.out.2).alloc _⟩

end Go.Proofs.Ytpkhfdcokcchdaa
