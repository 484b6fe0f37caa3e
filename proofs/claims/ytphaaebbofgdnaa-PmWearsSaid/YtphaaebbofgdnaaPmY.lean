/-
  PmWears: the law's own words against the device's buffer.
-/
import Derived.Test.YtphaaebbofgdnaaPmX
namespace Go.Proofs.Ytphaaebbofgdnaa
open Go.RowKit

/-- The law's note on each word: 0 none, 1 stored, 2 flushed. -/
def WordsAre (buf : Int → Option (Nat × Bool)) (g : Nat → Nat) : Prop := ∀ z : Nat, z < 24 → (g z = 0 ∧ buf (z : Int) = none) ∨ (g z = 1 ∧ ∃ v, buf (z : Int) = some (v, false)) ∨ (g z = 2 ∧ ∃ v, buf (z : Int) = some (v, true))
theorem WordsAre.store {buf : Int → Option (Nat × Bool)} {g : Nat → Nat} (h : WordsAre buf g) (w v : Nat) : WordsAre (updZ buf (w : Int) (some (v, false))) (fun j => if j = w then 1 else g j) := by
  intro z hz
  by_cases e : z = w
  · subst e
    refine .inr (.inl ⟨by simp, v, by simp [updZ]⟩)
  · have q : ¬ ((z : Int) = (w : Int)) := by omega
    have := h z hz
    unfold updZ
    simp only [if_neg e, if_neg q]
    exact this
theorem WordsAre.flush {buf : Int → Option (Nat × Bool)} {g : Nat → Nat} (h : WordsAre buf g) (l : Nat) : WordsAre (flF buf l 8) (fun j => if j / 8 = l then min (2 * g j) 2 else g j) := by
  intro z hz
  unfold flF
  by_cases e : z / 8 = l
  · have q : 8 * (l : Int) ≤ (z : Int) ∧ (z : Int) < 8 * l + ((8 : Nat) : Int) := by omega
    simp only [if_pos e, if_pos q]
    rcases h z hz with ⟨h1, h2⟩ | ⟨h1, v, h2⟩ | ⟨h1, v, h2⟩
    · rw [h1, h2]; exact .inl ⟨rfl, rfl⟩
    · rw [h1, h2]; exact .inr (.inr ⟨rfl, v, rfl⟩)
    · rw [h1, h2]; exact .inr (.inr ⟨rfl, v, rfl⟩)
  · have q : ¬ (8 * (l : Int) ≤ (z : Int) ∧ (z : Int) < 8 * l + ((8 : Nat) : Int)) := by omega
    simp only [if_neg e, if_neg q]
    exact h z hz
theorem WordsAre.flu {D : DevS} {g : Nat → Nat} (h : WordsAre D.buf g) (z : Nat) (hz : z < 24) : fluS D z = decide (g z = 2) := by
  unfold fluS
  rcases h z hz with ⟨h1, h2⟩ | ⟨h1, v, h2⟩ | ⟨h1, v, h2⟩
  · rw [h1, h2]; rfl
  · rw [h1, h2]; rfl
  · rw [h1, h2]; rfl
theorem WordsAre.fence {D : DevS} {g : Nat → Nat} (h : WordsAre D.buf g) : WordsAre (perBuf D (fluS D)) (fun j => if g j = 2 then 0 else g j) := by
  intro z hz
  unfold perBuf
  have hs := h.flu z hz
  by_cases e : g z = 2
  · rw [if_pos ⟨by omega, by rw [Int.toNat_natCast, hs, decide_eq_true e]⟩]
    exact .inl ⟨if_pos e, rfl⟩
  · rw [if_neg (fun q => by rw [Int.toNat_natCast, hs] at q; exact e (of_decide_eq_true q.2))]
    simp only [if_neg e]
    exact h z hz
open Classical in
theorem WordsAre.worn {D : DevS} {g : Nat → Nat} (h : WordsAre D.buf g) (l : Nat) (hl : l < 3) : perWear D (linesOf (fluS D)) l = if ∃ j, j < 8 ∧ g (8 * l + j) = 2 then D.wear l + 1 else D.wear l := by
  unfold perWear
  have e : linesOf (fluS D) l = true ↔ ∃ j, j < 8 ∧ g (8 * l + j) = 2 := by
    rw [linesOf_iff]
    constructor
    · rintro ⟨i, hi, hq⟩
      have hz : i < 24 := by omega
      rw [h.flu i hz, decide_eq_true_eq] at hi
      exact ⟨i % 8, by omega, by rw [show 8 * l + i % 8 = i by omega]; exact hi⟩
    · rintro ⟨j, hj, hg⟩
      exact ⟨8 * l + j, by rw [h.flu _ (by omega), decide_eq_true_eq]; exact hg, by omega⟩
  by_cases q : linesOf (fluS D) l = true
  · rw [if_pos q, if_pos (e.1 q)]
  · rw [if_neg q, if_neg (fun r => q (e.2 r))]

/-! ### The device of PmWears -/
def wz (buf : Int → Option (Nat × Bool)) (med : Nat → Nat) (wear : Nat → Int) (c : Nat) : DevS := { n := 3, med := med, buf := buf, wear := wear, bad := fun _ => false, fuse := 0, off := false, cnt := c }
/-- The device in W has the words g and the wears t, and at most c things were done. -/
def WzIs (W : World) (a : DevA) (g : Nat → Nat) (t : Nat → Int) (c : Nat) : Prop := ∃ buf med wear c0, DevIs W a (wz buf med wear c0) ∧ WordsAre buf g ∧ (∀ l, l < 3 → wear l = t l) ∧ (∀ l, 0 ≤ wear l ∧ wear l ≤ (c : Int)) ∧ c0 ≤ c
section
variable {a : DevA} {w : World} {g : Nat → Nat} {t : Nat → Int} {c : Nat}
theorem wz_store (z v : Nat) (hz : z < 24) (hv : v < 18446744073709551616) (hc : c < 1000000) (h : WzIs w a g t c) :
    Calls Try.prog 17 #[.pointer (some ⟨a.bd, 0, none⟩), .int .i64 (z : Int), .int .u64 v] w fun e w' => e = .returned (.int .i64 0) ∧ WzIs w' a (fun j => if j = z then 1 else g j) t (c + 1) ∧ Gr a.all w w' := by
  obtain ⟨buf, med, wear, c0, d, hg, ht, hw, hcc⟩ := h
  have hx := live_e (D := wz buf med wear c0) (t := isWord (wz buf med wear c0) (z : Int)) rfl rfl (by unfold isWord wz; rw [decide_eq_true_eq]; show 0 ≤ (z : Int) ∧ (z : Int) < 8 * ((3 : Nat) : Int); omega)
  refine (store_any a _ (z : Int) v w d hv (by show c0 < _; omega)).mono ?_
  rintro e w' ⟨rfl, d2, q⟩
  rw [hx.1]
  rw [hx.2] at d2
  exact ⟨rfl, ⟨_, med, wear, c0 + 1, d2, hg.store z v, ht, fun l => by have := hw l; omega, by omega⟩, q⟩
theorem wz_flush (l : Nat) (hl : l < 3) (hc : c < 1000000) (h : WzIs w a g t c) :
    Calls Try.prog 18 #[.pointer (some ⟨a.bd, 0, none⟩), .int .i64 (l : Int)] w fun e w' => e = .returned (.int .i64 0) ∧ WzIs w' a (fun j => if j / 8 = l then min (2 * g j) 2 else g j) t (c + 1) ∧ Gr a.all w w' := by
  obtain ⟨buf, med, wear, c0, d, hg, ht, hw, hcc⟩ := h
  have hx := live_e (D := wz buf med wear c0) (t := isLine (wz buf med wear c0) (l : Int)) rfl rfl (by unfold isLine wz; rw [decide_eq_true_eq]; show 0 ≤ (l : Int) ∧ (l : Int) < ((3 : Nat) : Int); omega)
  refine (flush_any a _ (l : Int) w d (by show c0 < _; omega)).mono ?_
  rintro e w' ⟨rfl, d2, q⟩
  rw [hx.1]
  rw [hx.2] at d2
  exact ⟨rfl, ⟨_, med, wear, c0 + 1, d2, hg.flush l, ht, fun l => by have := hw l; omega, by omega⟩, q⟩
open Classical in
theorem wz_fence (hc : c < 1000000) (h : WzIs w a g t c) :
    Calls Try.prog 19 #[.pointer (some ⟨a.bd, 0, none⟩)] w fun e w' => e = .returned (.int .i64 0) ∧ WzIs w' a (fun j => if g j = 2 then 0 else g j) (fun l => if ∃ j, j < 8 ∧ g (8 * l + j) = 2 then t l + 1 else t l) (c + 1) ∧ Gr a.all w w' := by
  obtain ⟨buf, med, wear, c0, d, hg, ht, hw, hcc⟩ := h
  have hx := live_e (D := wz buf med wear c0) (t := true) rfl rfl rfl
  refine (fence_any a _ w d (by show c0 < _; omega) (fun l => by have := hw l; show 0 ≤ wear l ∧ wear l < _; omega)).mono ?_
  rintro e w' ⟨rfl, d2, q⟩
  rw [hx.1]
  rw [hx.2] at d2
  have hg2 : WordsAre (wz buf med wear c0).buf g := hg
  refine ⟨rfl, ⟨_, _, _, c0 + 1, d2, hg2.fence, fun l hl => ?_, fun l => ?_, by omega⟩, q⟩
  · have r := hg2.worn l hl
    show perWear (wz buf med wear c0) (linesOf (fluS (wz buf med wear c0))) l = _
    rw [r]
    show (if _ then wear l + 1 else wear l) = _
    rw [ht l hl]
    congr
  · have := hw l
    show 0 ≤ perWear (wz buf med wear c0) (linesOf (fluS (wz buf med wear c0))) l ∧ perWear (wz buf med wear c0) (linesOf (fluS (wz buf med wear c0))) l ≤ _
    unfold perWear
    have e : ∀ (p : Prop) [Decidable p], 0 ≤ (if p then wear l + 1 else wear l) ∧ (if p then wear l + 1 else wear l) ≤ ((c + 1 : Nat) : Int) := fun p _ => by split <;> omega
    exact e _
end

end Go.Proofs.Ytphaaebbofgdnaa
