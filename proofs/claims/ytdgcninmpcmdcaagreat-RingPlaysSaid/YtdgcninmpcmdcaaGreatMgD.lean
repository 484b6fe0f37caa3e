/-
  MgD: PmW, PmX.
-/
import Derived.Test.YtdgcninmpcmdcaaGreatPmK

/-
  Layer 3's laws: what the document fixes (wakes).
-/
namespace Go.Proofs.YtdgcninmpcmdcaaGreat
open Go.RowKit

/-- A device that is on, with no fuse, nothing in the buffer but perhaps word 0. -/
structure One (D : DevS) (m : Nat) (b : Option (Nat × Bool)) (v : Int) (c : Nat) : Prop where
  n : D.n = 2
  off : D.off = false
  fuse : D.fuse = 0
  cnt : D.cnt ≤ c
  wear : ∀ l, 0 ≤ D.wear l ∧ D.wear l ≤ (c : Int)
  med : D.med 0 = m
  buf : D.buf 0 = b
  at0 : D.wear 0 = v
  bad : D.bad 0 = false
  rest : ∀ z, z ≠ 0 → D.buf z = none
def AtOne (W : World) (a : DevA) (m : Nat) (b : Option (Nat × Bool)) (v : Int) (c : Nat) : Prop := ∃ D, DevIs W a D ∧ One D m b v c
theorem live_e {D : DevS} {t : Bool} (h1 : D.off = false) (h2 : D.fuse = 0) (ht : t = true) : opE D t = 0 ∧ ∀ f, opD D t f = f D := by
  have hr : reachE D t = 0 := by unfold reachE; rw [h1, ht]; rfl
  have hl : lit D = D := by unfold lit; rw [if_neg (by omega)]
  exact ⟨opE_ok hr (by omega), fun f => by rw [opD_ok hr (by omega), hl]⟩
theorem One.store {D : DevS} {m c u : Nat} {b : Option (Nat × Bool)} {v : Int} (h : One D m b v c) : One (storeF 0 u D) m (some (u, false)) v (c + 1) :=
  ⟨h.n, h.off, h.fuse, (by have := h.cnt; show D.cnt + 1 ≤ c + 1; omega), (fun l => by have := h.wear l; show 0 ≤ D.wear l ∧ D.wear l ≤ _; omega), h.med, (by show updZ D.buf 0 (some (u, false)) 0 = _; simp [updZ]), h.at0, h.bad, fun z hz => by show updZ D.buf 0 (some (u, false)) z = _; unfold updZ; rw [if_neg hz]; exact h.rest z hz⟩
theorem One.flush {D : DevS} {m c u : Nat} {f : Bool} {v : Int} (h : One D m (some (u, f)) v c) : One (flushF 0 D) m (some (u, true)) v (c + 1) :=
  ⟨h.n, h.off, h.fuse, (by have := h.cnt; show D.cnt + 1 ≤ c + 1; omega), (fun l => by have := h.wear l; show 0 ≤ D.wear l ∧ D.wear l ≤ _; omega), h.med, (by show flF D.buf 0 8 0 = _; unfold flF; rw [if_pos (by omega), h.buf]; rfl), h.at0, h.bad, fun z hz => by show flF D.buf 0 8 z = _; unfold flF; rw [h.rest z hz]; simp⟩
theorem One.fence {D : DevS} {m c u : Nat} {v : Int} (h : One D m (some (u, true)) v c) : One (fenceF D) u none (v + 1) (c + 1) := by
  have hS : fluS D 0 = true := by unfold fluS; rw [show ((0 : Nat) : Int) = 0 from rfl, h.buf]; rfl
  refine ⟨h.n, h.off, h.fuse, (by have := h.cnt; show D.cnt + 1 ≤ c + 1; omega), fun l => ?_, ?_, ?_, ?_, h.bad, fun z hz => ?_⟩
  · have := h.wear l
    show 0 ≤ perWear D (linesOf (fluS D)) l ∧ perWear D (linesOf (fluS D)) l ≤ _
    unfold perWear
    split <;> omega
  · show perMed D (fluS D) 0 = u
    unfold perMed
    rw [if_pos ⟨hS, h.bad⟩, show ((0 : Nat) : Int) = 0 from rfl, h.buf]
    rfl
  · show perBuf D (fluS D) 0 = none
    unfold perBuf
    rw [if_pos ⟨by omega, hS⟩]
  · show perWear D (linesOf (fluS D)) 0 = v + 1
    unfold perWear
    rw [if_pos (linesOf_iff.2 ⟨0, hS, rfl⟩), h.at0]
  · show perBuf D (fluS D) z = none
    unfold perBuf
    rw [h.rest z hz]
    split <;> rfl
theorem bootS_none (L : List Nat) {kp : Nat → Bool} (hk : ∀ j, kp j = false) : bootS L kp = fun _ => false := by
  funext i
  unfold bootS
  rw [List.any_eq_false]
  intro j _
  simp [hk j]
theorem linesOf_none : linesOf (fun _ => false) = fun _ => false := by
  funext l
  cases h : linesOf (fun _ => false) l with
  | false => rfl
  | true => obtain ⟨i, hi, _⟩ := linesOf_iff.1 h; cases hi
theorem One.boot {D : DevS} {m c : Nat} {b : Option (Nat × Bool)} {v : Int} (h : One D m b v c) (L : List Nat) {kp : Nat → Bool} (hk : ∀ j, kp j = false) : One (bootD D L kp) m none v c := by
  have e : bootD D L kp = { D with buf := fun _ => none, fuse := 0, off := false } := by
    unfold bootD persistD
    rw [bootS_none L hk, linesOf_none, perMed_none]
    have : perWear D (fun _ => false) = D.wear := by funext l; simp [perWear]
    rw [this]
  rw [e]
  exact ⟨h.n, rfl, rfl, h.cnt, h.wear, h.med, rfl, h.at0, h.bad, fun _ _ => rfl⟩

section
variable {a : DevA} {w : World} {m c : Nat} {b : Option (Nat × Bool)} {v : Int}
theorem store_one (h : AtOne w a m b v c) (hc : c < 1000000) : Calls Tryz.prog 137 #[.pointer (some ⟨a.bd, 0, none⟩), .int .i64 0, .int .u64 7] w fun e w' => e = .returned (.int .i64 0) ∧ AtOne w' a m (some (7, false)) v (c + 1) ∧ Gr a.all w w' := by
  obtain ⟨D, h1, h2⟩ := h
  have hl := live_e (t := isWord D 0) h2.off h2.fuse (by unfold isWord; rw [h2.n]; rfl)
  refine (store_any a D 0 7 w h1 (by omega) (by have := h2.cnt; omega)).mono ?_
  rintro e w' ⟨rfl, d, g⟩
  rw [hl.1]
  rw [hl.2] at d
  exact ⟨rfl, ⟨_, d, h2.store⟩, g⟩
theorem flush_one {u : Nat} {f : Bool} (h : AtOne w a m (some (u, f)) v c) (hc : c < 1000000) : Calls Tryz.prog 138 #[.pointer (some ⟨a.bd, 0, none⟩), .int .i64 0] w fun e w' => e = .returned (.int .i64 0) ∧ AtOne w' a m (some (u, true)) v (c + 1) ∧ Gr a.all w w' := by
  obtain ⟨D, h1, h2⟩ := h
  have hl := live_e (t := isLine D 0) h2.off h2.fuse (by unfold isLine; rw [h2.n]; rfl)
  refine (flush_any a D 0 w h1 (by have := h2.cnt; omega)).mono ?_
  rintro e w' ⟨rfl, d, g⟩
  rw [hl.1]
  rw [hl.2] at d
  exact ⟨rfl, ⟨_, d, h2.flush⟩, g⟩
theorem fence_one {u : Nat} (h : AtOne w a m (some (u, true)) v c) (hc : c < 1000000) : Calls Tryz.prog 17 #[.pointer (some ⟨a.bd, 0, none⟩)] w fun e w' => e = .returned (.int .i64 0) ∧ AtOne w' a u none (v + 1) (c + 1) ∧ Gr a.all w w' := by
  obtain ⟨D, h1, h2⟩ := h
  have hl := live_e (t := true) h2.off h2.fuse rfl
  refine (fence_any a D w h1 (by have := h2.cnt; omega) (fun l => by have := h2.wear l; omega)).mono ?_
  rintro e w' ⟨rfl, d, g⟩
  rw [hl.1]
  rw [hl.2] at d
  exact ⟨rfl, ⟨_, d, h2.fence⟩, g⟩
theorem boot_one (h : AtOne w a m b v c) (hc : c < 1000000) : Calls Tryz.prog 18 #[.pointer (some ⟨a.bd, 0, none⟩), .slice none 0 0] w fun e w' => e = .returned (.tuple #[]) ∧ AtOne w' a m none v c ∧ Gr a.all w w' := by
  obtain ⟨D, h1, h2⟩ := h
  refine (boot_any a D (.slice none 0 0) 0 (fun _ => false) w h1 ⟨none, 0, rfl, (fun j hj => by omega), (fun _ _ => rfl), Nat.zero_le _⟩ (fun l => by have := h2.wear l; omega) (by have := h2.cnt; omega)).mono ?_
  rintro e w' ⟨rfl, ⟨L, _, d⟩, g⟩
  exact ⟨rfl, ⟨_, d, h2.boot L fun _ => rfl⟩, g⟩
theorem load_one (h : AtOne w a m none v c) : Calls Tryz.prog 108 #[.pointer (some ⟨a.bd, 0, none⟩), .int .i64 0] w fun e w' => e = .returned (.tuple #[.int .u64 (m : Int), .int .i64 0]) ∧ AtOne w' a m none v c ∧ Gr [] w w' := by
  obtain ⟨D, h1, h2⟩ := h
  refine (load_ok a D 0 w h1 h2.off (by rw [h2.n]; omega)).mono ?_
  rintro e w' ⟨rfl, g⟩
  have : loadV D 0 = m := by unfold loadV; rw [show ((0 : Nat) : Int) = 0 from rfl, h2.buf]; exact h2.med
  rw [this]
  exact ⟨rfl, ⟨D, h1.gr0 g, h2⟩, g⟩
end

end Go.Proofs.YtdgcninmpcmdcaaGreat

/-
  PmFuse.
-/
namespace Go.Proofs.YtdgcninmpcmdcaaGreat
open Go.RowKit
set_option linter.unusedVariables false

def fz (f : Int) (o : Bool) (buf : Int → Option (Nat × Bool)) (med : Nat → Nat) (wear : Nat → Int) (c : Nat) : DevS := { n := 3, med := med, buf := buf, wear := wear, bad := fun j => if j = 1 then true else false, fuse := f, off := o, cnt := c }
theorem bootD_none (D : DevS) (L : List Nat) {kp : Nat → Bool} (hk : ∀ j, kp j = false) : bootD D L kp = { D with buf := fun _ => none, fuse := 0, off := false } := by
  unfold bootD persistD
  rw [bootS_none L hk, linesOf_none, perMed_none]
  have : perWear D (fun _ => false) = D.wear := by funext l; simp [perWear]
  rw [this]
section
variable {a : DevA} {w : World} {buf : Int → Option (Nat × Bool)} {med : Nat → Nat} {wear : Nat → Int} {c : Nat}
theorem fz_store (f : Int) (z v : Nat) (hf1 : f ≠ 1) (hz : z < 24) (hv : v < 18446744073709551616) (hc : c < 1000000) (h : DevIs w a (fz f false buf med wear c)) :
    Calls Tryz.prog 137 #[.pointer (some ⟨a.bd, 0, none⟩), .int .i64 (z : Int), .int .u64 v] w fun e w' => e = .returned (.int .i64 0) ∧ DevIs w' a (fz (if 1 < f then f - 1 else f) false (updZ buf (z : Int) (some (v, false))) med wear (c + 1)) ∧ Gr a.all w w' := by
  have hr : reachE (fz f false buf med wear c) (isWord (fz f false buf med wear c) (z : Int)) = 0 := by
    have : isWord (fz f false buf med wear c) (z : Int) = true := by unfold isWord fz; rw [decide_eq_true_eq]; show 0 ≤ (z : Int) ∧ (z : Int) < 8 * ((3 : Nat) : Int); omega
    rw [this]; rfl
  refine (store_any a _ (z : Int) v w h hv (by show c < _; omega)).mono ?_
  rintro e w' ⟨rfl, d, g⟩
  rw [opE_ok hr hf1]
  rw [opD_ok hr hf1] at d
  exact ⟨rfl, d, g⟩
theorem fz_flush (l : Nat) (hl : l < 3) (hc : c < 1000000) (h : DevIs w a (fz 0 false buf med wear c)) :
    Calls Tryz.prog 138 #[.pointer (some ⟨a.bd, 0, none⟩), .int .i64 (l : Int)] w fun e w' => e = .returned (.int .i64 0) ∧ DevIs w' a (fz 0 false (flF buf l 8) med wear (c + 1)) ∧ Gr a.all w w' := by
  have hx := live_e (D := fz 0 false buf med wear c) (t := isLine (fz 0 false buf med wear c) (l : Int)) rfl rfl (by unfold isLine fz; rw [decide_eq_true_eq]; show 0 ≤ (l : Int) ∧ (l : Int) < ((3 : Nat) : Int); omega)
  refine (flush_any a _ (l : Int) w h (by show c < _; omega)).mono ?_
  rintro e w' ⟨rfl, d, g⟩
  rw [hx.1]
  rw [hx.2] at d
  exact ⟨rfl, d, g⟩
theorem fz_fence (hc : c < 1000000) (hw : ∀ l, 0 ≤ wear l ∧ wear l < 1000000) (h : DevIs w a (fz 0 false buf med wear c)) :
    Calls Tryz.prog 17 #[.pointer (some ⟨a.bd, 0, none⟩)] w fun e w' => e = .returned (.int .i64 0) ∧ DevIs w' a (fenceF (fz 0 false buf med wear c)) ∧ Gr a.all w w' := by
  have hx := live_e (D := fz 0 false buf med wear c) (t := true) rfl rfl rfl
  refine (fence_any a _ w h (by show c < _; omega) (fun l => by have := hw l; show 0 ≤ wear l ∧ wear l < _; omega)).mono ?_
  rintro e w' ⟨rfl, d, g⟩
  rw [hx.1]
  rw [hx.2] at d
  exact ⟨rfl, d, g⟩
end
/-- j words stored; l lines flushed. -/
def bufJ (v j : Nat) : Int → Option (Nat × Bool) := fun z => if 0 ≤ z ∧ z < j then some (v, false) else none
def bufL (v l : Nat) : Int → Option (Nat × Bool) := fun z => if 0 ≤ z ∧ z < 24 then some (v, decide (z < 8 * l)) else none
theorem bufJ_zero (v : Nat) : bufJ v 0 = fun _ => none := by funext z; unfold bufJ; rw [if_neg (by omega)]
theorem bufJ_succ (v j : Nat) : updZ (bufJ v j) (j : Int) (some (v, false)) = bufJ v (j + 1) := by
  funext z
  unfold updZ bufJ
  by_cases e : z = (j : Int)
  · rw [if_pos e, if_pos (by omega)]
  · rw [if_neg e]
    by_cases q : 0 ≤ z ∧ z < j
    · rw [if_pos q, if_pos (by omega)]
    · rw [if_neg q, if_neg (by omega)]
theorem bufL_zero (v : Nat) : bufJ v 24 = bufL v 0 := by
  funext z
  unfold bufJ bufL
  by_cases q : 0 ≤ z ∧ z < 24
  · rw [if_pos q, if_pos (by omega), decide_eq_false (by omega)]
  · rw [if_neg q, if_neg (by omega)]
theorem bufL_succ (v l : Nat) (hl : l < 3) : flF (bufL v l) l 8 = bufL v (l + 1) := by
  funext z
  unfold flF bufL
  by_cases q : 0 ≤ z ∧ z < 24
  · rw [if_pos q, if_pos q]
    by_cases r : 8 * (l : Int) ≤ z ∧ z < 8 * l + ((8 : Nat) : Int)
    · rw [if_pos r, decide_eq_true (show z < 8 * ((l + 1 : Nat) : Int) by omega)]; rfl
    · rw [if_neg r]
      congr 2
      rw [decide_eq_decide]
      omega
  · rw [if_neg q, if_neg q]
    split <;> rfl
def medR (v r : Nat) : Nat → Nat := fun i => if r ≠ 0 ∧ i < 24 ∧ i / 8 ≠ 1 then v else 0
def wearR (r : Nat) : Nat → Int := fun l => if l < 3 then (r : Int) else 0
theorem fence_round (v r c : Nat) : fenceF (fz 0 false (bufL v 3) (medR v r) (wearR r) c) = fz 0 false (fun _ => none) (medR v (r + 1)) (wearR (r + 1)) (c + 1) := by
  have hS : ∀ i : Nat, fluS (fz 0 false (bufL v 3) (medR v r) (wearR r) c) i = decide (i < 24) := fun i => by
    show ((bufL v 3 (i : Int)).getD (0, false)).2 = _
    unfold bufL
    by_cases q : i < 24
    · rw [if_pos (by omega), decide_eq_true q]; show decide _ = true; rw [decide_eq_true_eq]; omega
    · rw [if_neg (by omega), decide_eq_false q]; rfl
  have h1 : perMed (fz 0 false (bufL v 3) (medR v r) (wearR r) c) (fluS (fz 0 false (bufL v 3) (medR v r) (wearR r) c)) = medR v (r + 1) := by
    funext i
    unfold perMed
    rw [hS]
    show (if decide (i < 24) = true ∧ (if i / 8 = 1 then true else false) = false then ((bufL v 3 (i : Int)).getD (0, false)).1 else medR v r i) = _
    by_cases q : i < 24
    · by_cases b : i / 8 = 1
      · rw [if_neg (by simp [b])]; unfold medR; rw [if_neg (fun e => e.2.2 b), if_neg (fun e => e.2.2 b)]
      · rw [if_pos (by simp [q, b])]; unfold medR bufL; rw [if_pos (by omega), if_pos ⟨by omega, q, b⟩]; rfl
    · rw [if_neg (by simp [q])]; unfold medR; rw [if_neg (fun e => q e.2.1), if_neg (fun e => q e.2.1)]
  have h2 : perBuf (fz 0 false (bufL v 3) (medR v r) (wearR r) c) (fluS (fz 0 false (bufL v 3) (medR v r) (wearR r) c)) = fun _ => none := by
    funext z
    unfold perBuf
    rw [hS]
    by_cases q : 0 ≤ z ∧ z < 24
    · rw [if_pos ⟨q.1, by rw [decide_eq_true_eq]; omega⟩]
    · show (if _ then none else bufL v 3 z) = none
      unfold bufL
      rw [if_neg q]
      split <;> rfl
  have h3 : perWear (fz 0 false (bufL v 3) (medR v r) (wearR r) c) (linesOf (fluS (fz 0 false (bufL v 3) (medR v r) (wearR r) c))) = wearR (r + 1) := by
    have hl : linesOf (fluS (fz 0 false (bufL v 3) (medR v r) (wearR r) c)) = fun l => decide (l < 3) := by
      funext l
      rw [Bool.eq_iff_iff, linesOf_iff, decide_eq_true_eq]
      constructor
      · rintro ⟨i, hi, he⟩
        rw [hS, decide_eq_true_eq] at hi
        omega
      · intro q
        exact ⟨8 * l, by rw [hS, decide_eq_true_eq]; omega, by omega⟩
    rw [hl]
    funext l
    unfold perWear
    show (if decide (l < 3) = true then wearR r l + 1 else wearR r l) = _
    unfold wearR
    by_cases q : l < 3
    · rw [if_pos (decide_eq_true q), if_pos q, if_pos q]; omega
    · rw [if_neg (by simpa using q), if_neg q, if_neg q]
  unfold fenceF persistD
  rw [h1, h2, h3]
  rfl

end Go.Proofs.YtdgcninmpcmdcaaGreat
