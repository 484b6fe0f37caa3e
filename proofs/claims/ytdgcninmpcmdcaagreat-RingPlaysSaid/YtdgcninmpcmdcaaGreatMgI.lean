/-
  MgI: SpJ, SpK.
-/
import Derived.Test.YtdgcninmpcmdcaaGreatMgF

/-
  Layer 5: the law's full; wakes.
-/
namespace Go.Proofs.YtdgcninmpcmdcaaGreat
open Go.RowKit

theorem fullS_max (s : ByteArray) : (fullS s).size ≤ maxLen := by rw [fullS_size]; unfold maxLen; omega
def p05 : PlanZ := ⟨0, 4, 2⟩
def B05 : BkS := ⟨1, updZ (fun _ => none) 0 (some 0)⟩
/-- What the document's example of a worn line leaves. -/
theorem write05 {D : DevS} {s : ByteArray} (h : Zero D) (hn : D.n = 7) (hb1 : D.bad 1 = true) (hb5 : D.bad 5 = false) (hs : s.size = 64) (hw : wdL s.data.toList 0 ≠ 0) :
    ∃ E, writeS p05 0 s D ⟨0, fun _ => none⟩ = (0, E, B05) ∧ Calm E ∧ E.n = 7 ∧ ∀ k, k < 8 → E.med (8 * 5 + k) = wdL s.data.toList k := by
  obtain ⟨E2, e2, s2⟩ := put_calm (l := 1) h.calm (by omega) hs
  have m2 : ∀ x, E2.med x = 0 := fun x => by rw [s2.med, if_neg (fun e => by rw [hb1] at e; cases e.2.2), h.med]
  have t2 : tookB E2 ((1 : Nat) : Int) s = false := took_not (k := 0) (by omega) (by rw [m2]; exact fun e => hw e.symm)
  obtain ⟨E3, e3, s3⟩ := put_calm (l := 5) s2.calm (by rw [s2.n]; omega) hs
  have m3 : ∀ k, k < 8 → E3.med (8 * 5 + k) = wdL s.data.toList k := fun k hk => by
    rw [s3.med, if_pos ⟨by omega, by omega, by rw [s2.bad]; exact hb5⟩]
    congr 1
    omega
  have n3 : E3.n = 7 := by rw [s3.n, s2.n, hn]
  have t3 : tookB E3 ((5 : Nat) : Int) s = true := took_of (by omega) hs m3
  obtain ⟨E4, e4, s4⟩ := putword_calm (D := E3) (l := 0) (k := 0) (v := guardN 1) s3.calm (by omega) (by omega)
  refine ⟨E4, ?_, s4.calm, by rw [s4.n, n3], fun k hk => ?_⟩
  · have r : replaceS p05 0 s E2 ⟨0, fun _ => none⟩ = ⟨true, 0, E4, B05⟩ := by
      have q1 : spareP p05 ((0 : Nat) : Int) = ((5 : Nat) : Int) := by decide
      have q2 : p05.a + ((0 : Nat) : Int) / 8 = ((0 : Nat) : Int) := by decide
      have q3 : ((0 : Nat) : Int) % 8 = ((0 : Nat) : Int) := by decide
      unfold replaceS
      simp only [q1, q2, q3, e3]
      have q4 : markN E3 ((5 : Nat) : Int) 0 s = 1 := by unfold markN; rw [t3]; rfl
      rw [q4, e4, t3]
      rfl
    have q1 : placeP p05 ⟨0, fun _ => none⟩ 0 = ((1 : Nat) : Int) := by decide
    unfold writeS
    rw [if_neg (by simp [hs]), if_pos (by decide), q1, e2]
    show (if (0 : Int) ≠ 0 then _ else _) = _
    rw [if_neg (by simp)]
    show ensureS p05 0 ((1 : Nat) : Int) s E2 ⟨0, fun _ => none⟩ = _
    unfold ensureS
    rw [t2]
    show ensS p05 0 s 2 E2 ⟨0, fun _ => none⟩ = _
    unfold ensS
    rw [r]
    rfl
  · rw [s4.med, if_neg (by omega)]
    exact m3 k hk
end Go.Proofs.YtdgcninmpcmdcaaGreat

/-
  Layer 5: wakes.
-/
namespace Go.Proofs.YtdgcninmpcmdcaaGreat
open Go.RowKit

end Go.Proofs.YtdgcninmpcmdcaaGreat
