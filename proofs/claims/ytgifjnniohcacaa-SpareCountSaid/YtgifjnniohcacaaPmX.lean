/-
  PmFuse.
-/
import Derived.Test.YtgifjnniohcacaaPmW
namespace Go.Proofs.Ytgifjnniohcacaa
open Go.RowKit
set_option linter.unusedVariables false

def fz (f : Int) (o : Bool) (buf : Int → Option (Nat × Bool)) (med : Nat → Nat) (wear : Nat → Int) (c : Nat) : DevS := { n := 3, med := med, buf := buf, wear := wear, bad := fun j => if j = 1 then true else false, fuse := f, off := o, cnt := c }
theorem bootD_none (D : DevS) (L : List Nat) {kp : Nat → Bool} (hk : ∀ j, kp j = false) : bootD D L kp = { D with buf := fun _ => none, fuse := 0, off := false } := by
  unfold bootD persistD
  rw [bootS_none L hk, linesOf_none, perMed_none]
  have : perWear D (fun _ => false) = D.wear := by funext l; simp [perWear]
  rw [this]
section
variable {a : DevA} {w : World} {buf : Int → Option (Nat × Bool)} {med : Nat → Nat} {wear : Nat → Int} {c : Nat}
theorem fz_store (f : Int) (z v : Nat) (hf1 : f ≠ 1) (hz : z < 24) (hv : v < 18446744073709551616) (hc : c < 1000000) (h : DevIs w a (fz f false buf med wear c)) :
    Calls Try.prog 68 #[.pointer (some ⟨a.bd, 0, none⟩), .int .i64 (z : Int), .int .u64 v] w fun e w' => e = .returned (.int .i64 0) ∧ DevIs w' a (fz (if 1 < f then f - 1 else f) false (updZ buf (z : Int) (some (v, false))) med wear (c + 1)) ∧ Gr a.all w w' := by
  have hr : reachE (fz f false buf med wear c) (isWord (fz f false buf med wear c) (z : Int)) = 0 := by
    have : isWord (fz f false buf med wear c) (z : Int) = true := by unfold isWord fz; rw [decide_eq_true_eq]; show 0 ≤ (z : Int) ∧ (z : Int) < 8 * ((3 : Nat) : Int); omega
    rw [this]; rfl
  refine (store_any a _ (z : Int) v w h hv (by show c < _; omega)).mono ?_
  rintro e w' ⟨rfl, d, g⟩
  rw [opE_ok hr hf1]
  rw [opD_ok hr hf1] at d
  exact ⟨rfl, d, g⟩
theorem fz_flush (l : Nat) (hl : l < 3) (hc : c < 1000000) (h : DevIs w a (fz 0 false buf med wear c)) :
    Calls Try.prog 69 #[.pointer (some ⟨a.bd, 0, none⟩), .int .i64 (l : Int)] w fun e w' => e = .returned (.int .i64 0) ∧ DevIs w' a (fz 0 false (flF buf l 8) med wear (c + 1)) ∧ Gr a.all w w' := by
  have hx := live_e (D := fz 0 false buf med wear c) (t := isLine (fz 0 false buf med wear c) (l : Int)) rfl rfl (by unfold isLine fz; rw [decide_eq_true_eq]; show 0 ≤ (l : Int) ∧ (l : Int) < ((3 : Nat) : Int); omega)
  refine (flush_any a _ (l : Int) w h (by show c < _; omega)).mono ?_
  rintro e w' ⟨rfl, d, g⟩
  rw [hx.1]
  rw [hx.2] at d
  exact ⟨rfl, d, g⟩
theorem fz_fence (hc : c < 1000000) (hw : ∀ l, 0 ≤ wear l ∧ wear l < 1000000) (h : DevIs w a (fz 0 false buf med wear c)) :
    Calls Try.prog 70 #[.pointer (some ⟨a.bd, 0, none⟩)] w fun e w' => e = .returned (.int .i64 0) ∧ DevIs w' a (fenceF (fz 0 false buf med wear c)) ∧ Gr a.all w w' := by
  have hx := live_e (D := fz 0 false buf med wear c) (t := true) rfl rfl rfl
  refine (fence_any a _ w h (by show c < _; omega) (fun l => by have := hw l; show 0 ≤ wear l ∧ wear l < _; omega)).mono ?_
  rintro e w' ⟨rfl, d, g⟩
  rw [hx.1]
  rw [hx.2] at d
  exact ⟨rfl, d, g⟩
end
/-- j words stored; l lines flushed. -/
def bufJ (v j : Nat) : Int → Option (Nat × Bool) := fun z => if 0 ≤ z ∧ z < j then some (v, false) else none
def bufL (v l : Nat) : Int → Option (Nat × Bool) := fun z => if 0 ≤ z ∧ z < 24 then some (v, decide (z < 8 * l)) else none
theorem bufJ_zero (v : Nat) : bufJ v 0 = fun _ => none := by funext z; unfold bufJ; rw [if_neg (by omega)]
theorem bufJ_succ (v j : Nat) : updZ (bufJ v j) (j : Int) (some (v, false)) = bufJ v (j + 1) := by
  funext z
  unfold updZ bufJ
  by_cases e : z = (j : Int)
  · rw [if_pos e, if_pos (by omega)]
  · rw [if_neg e]
    by_cases q : 0 ≤ z ∧ z < j
    · rw [if_pos q, if_pos (by omega)]
    · rw [if_neg q, if_neg (by omega)]
theorem bufL_zero (v : Nat) : bufJ v 24 = bufL v 0 := by
  funext z
  unfold bufJ bufL
  by_cases q : 0 ≤ z ∧ z < 24
  · rw [if_pos q, if_pos (by omega), decide_eq_false (by omega)]
  · rw [if_neg q, if_neg (by omega)]
theorem bufL_succ (v l : Nat) (hl : l < 3) : flF (bufL v l) l 8 = bufL v (l + 1) := by
  funext z
  unfold flF bufL
  by_cases q : 0 ≤ z ∧ z < 24
  · rw [if_pos q, if_pos q]
    by_cases r : 8 * (l : Int) ≤ z ∧ z < 8 * l + ((8 : Nat) : Int)
    · rw [if_pos r, decide_eq_true (show z < 8 * ((l + 1 : Nat) : Int) by omega)]; rfl
    · rw [if_neg r]
      congr 2
      rw [decide_eq_decide]
      omega
  · rw [if_neg q, if_neg q]
    split <;> rfl
def medR (v r : Nat) : Nat → Nat := fun i => if r ≠ 0 ∧ i < 24 ∧ i / 8 ≠ 1 then v else 0
def wearR (r : Nat) : Nat → Int := fun l => if l < 3 then (r : Int) else 0
theorem fence_round (v r c : Nat) : fenceF (fz 0 false (bufL v 3) (medR v r) (wearR r) c) = fz 0 false (fun _ => none) (medR v (r + 1)) (wearR (r + 1)) (c + 1) := by
  have hS : ∀ i : Nat, fluS (fz 0 false (bufL v 3) (medR v r) (wearR r) c) i = decide (i < 24) := fun i => by
    show ((bufL v 3 (i : Int)).getD (0, false)).2 = _
    unfold bufL
    by_cases q : i < 24
    · rw [if_pos (by omega), decide_eq_true q]; show decide _ = true; rw [decide_eq_true_eq]; omega
    · rw [if_neg (by omega), decide_eq_false q]; rfl
  have h1 : perMed (fz 0 false (bufL v 3) (medR v r) (wearR r) c) (fluS (fz 0 false (bufL v 3) (medR v r) (wearR r) c)) = medR v (r + 1) := by
    funext i
    unfold perMed
    rw [hS]
    show (if decide (i < 24) = true ∧ (if i / 8 = 1 then true else false) = false then ((bufL v 3 (i : Int)).getD (0, false)).1 else medR v r i) = _
    by_cases q : i < 24
    · by_cases b : i / 8 = 1
      · rw [if_neg (by simp [b])]; unfold medR; rw [if_neg (fun e => e.2.2 b), if_neg (fun e => e.2.2 b)]
      · rw [if_pos (by simp [q, b])]; unfold medR bufL; rw [if_pos (by omega), if_pos ⟨by omega, q, b⟩]; rfl
    · rw [if_neg (by simp [q])]; unfold medR; rw [if_neg (fun e => q e.2.1), if_neg (fun e => q e.2.1)]
  have h2 : perBuf (fz 0 false (bufL v 3) (medR v r) (wearR r) c) (fluS (fz 0 false (bufL v 3) (medR v r) (wearR r) c)) = fun _ => none := by
    funext z
    unfold perBuf
    rw [hS]
    by_cases q : 0 ≤ z ∧ z < 24
    · rw [if_pos ⟨q.1, by rw [decide_eq_true_eq]; omega⟩]
    · show (if _ then none else bufL v 3 z) = none
      unfold bufL
      rw [if_neg q]
      split <;> rfl
  have h3 : perWear (fz 0 false (bufL v 3) (medR v r) (wearR r) c) (linesOf (fluS (fz 0 false (bufL v 3) (medR v r) (wearR r) c))) = wearR (r + 1) := by
    have hl : linesOf (fluS (fz 0 false (bufL v 3) (medR v r) (wearR r) c)) = fun l => decide (l < 3) := by
      funext l
      rw [Bool.eq_iff_iff, linesOf_iff, decide_eq_true_eq]
      constructor
      · rintro ⟨i, hi, he⟩
        rw [hS, decide_eq_true_eq] at hi
        omega
      · intro q
        exact ⟨8 * l, by rw [hS, decide_eq_true_eq]; omega, by omega⟩
    rw [hl]
    funext l
    unfold perWear
    show (if decide (l < 3) = true then wearR r l + 1 else wearR r l) = _
    unfold wearR
    by_cases q : l < 3
    · rw [if_pos (decide_eq_true q), if_pos q, if_pos q]; omega
    · rw [if_neg (by simpa using q), if_neg q, if_neg q]
  unfold fenceF persistD
  rw [h1, h2, h3]
  rfl

end Go.Proofs.Ytgifjnniohcacaa
