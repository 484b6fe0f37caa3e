/-
  Layer 4: what a Put leaves on a device that is on, with no fuse, with nothing pending; wakes.
-/
import Derived.Test.YtgifjnniohcacaaGreatLnC
namespace Go.Proofs.YtgifjnniohcacaaGreat
open Go.RowKit

structure Calm (D : DevS) : Prop where
  off : D.off = false
  fuse : D.fuse = 0
  buf : ∀ z, D.buf z = none
/-- i words from B on are stored. -/
structure Sto (D D' : DevS) (B i : Nat) (f : Nat → Nat) : Prop where
  n : D'.n = D.n
  off : D'.off = false
  fuse : D'.fuse = 0
  bad : D'.bad = D.bad
  med : D'.med = D.med
  cnt : D'.cnt = D.cnt + i
  buf : ∀ z : Int, D'.buf z = if (B : Int) ≤ z ∧ z < (B : Int) + i then some (f (z - B).toNat, false) else none
/-- m words from B on, in line l, last. -/
structure PutS (D D' : DevS) (l B m : Nat) (f : Nat → Nat) : Prop where
  n : D'.n = D.n
  calm : Calm D'
  bad : D'.bad = D.bad
  cnt : D'.cnt = D.cnt + m + 2
  med : ∀ x, D'.med x = if B ≤ x ∧ x < B + m ∧ D.bad l = false then f (x - B) else D.med x
theorem Sto.start {D : DevS} (h : Calm D) (B : Nat) (f : Nat → Nat) : Sto D D B 0 f :=
  ⟨rfl, h.off, h.fuse, rfl, rfl, rfl, fun z => by rw [if_neg (by omega)]; exact h.buf z⟩
theorem stos_live (D : DevS) (l k m : Nat) (f : Nat → Nat) (hl : l < D.n) (hk : k + m ≤ 8) : ∀ (r i : Nat) (D' : DevS), i + r = m → Sto D D' (8 * l + k) i f → ∃ E, stos l k f r i D' = (0, E) ∧ PutS D E l (8 * l + k) m f
  | 0, i, D', hi, h => by
    obtain rfl : i = m := by omega
    have h1 := live_e (D := D') (t := isLine D' (l : Int)) h.off h.fuse (by unfold isLine; rw [decide_eq_true_eq, h.n]; omega)
    obtain ⟨D2, hD2⟩ : ∃ D2, D2 = flushF (l : Int) D' := ⟨_, rfl⟩
    have o2 : D2.off = false := by rw [hD2]; exact h.off
    have u2 : D2.fuse = 0 := by rw [hD2]; exact h.fuse
    have h2 := live_e (D := D2) (t := true) o2 u2 rfl
    have b2 : ∀ z : Int, D2.buf z = if ((8 * l + k : Nat) : Int) ≤ z ∧ z < ((8 * l + k : Nat) : Int) + i then some (f (z - ((8 * l + k : Nat) : Int)).toNat, true) else none := fun z => by
      rw [hD2]
      show flF D'.buf ((l : Int).toNat) 8 z = _
      rw [Int.toNat_natCast]
      unfold flF
      rw [h.buf z]
      by_cases c : ((8 * l + k : Nat) : Int) ≤ z ∧ z < ((8 * l + k : Nat) : Int) + i
      · rw [if_pos c, if_pos c, if_pos (by omega)]; rfl
      · rw [if_neg c, if_neg c]; split <;> rfl
    have s2 : ∀ x : Nat, fluS D2 x = decide (8 * l + k ≤ x ∧ x < 8 * l + k + i) := fun x => by
      unfold fluS
      rw [b2]
      by_cases c : 8 * l + k ≤ x ∧ x < 8 * l + k + i
      · rw [if_pos (by omega), decide_eq_true c]; rfl
      · rw [if_neg (by omega), decide_eq_false c]; rfl
    refine ⟨fenceF D2, ?_, ?_⟩
    · unfold stos finS
      rw [h1.1, if_pos rfl, h1.2, ← hD2, h2.1, h2.2]
    · refine ⟨by rw [hD2]; exact h.n, ⟨o2, u2, fun z => ?_⟩, by rw [hD2]; exact h.bad, by rw [hD2]; show D'.cnt + 1 + 1 = _; rw [h.cnt], fun x => ?_⟩
      · show perBuf D2 (fluS D2) z = none
        unfold perBuf
        rw [s2, b2]
        by_cases c : ((8 * l + k : Nat) : Int) ≤ z ∧ z < ((8 * l + k : Nat) : Int) + i
        · rw [if_pos ⟨by omega, by rw [decide_eq_true_eq]; omega⟩]
        · rw [if_neg c]; split <;> rfl
      · show perMed D2 (fluS D2) x = _
        unfold perMed
        have hb : D2.bad = D.bad := by rw [hD2]; exact h.bad
        have hm : D2.med = D.med := by rw [hD2]; exact h.med
        rw [s2, b2, hb, hm]
        by_cases c : 8 * l + k ≤ x ∧ x < 8 * l + k + i
        · rw [decide_eq_true c, if_pos (show ((8 * l + k : Nat) : Int) ≤ (x : Int) ∧ (x : Int) < ((8 * l + k : Nat) : Int) + i by omega), show x / 8 = l by omega]
          cases hbl : D.bad l with
          | true => rw [if_neg (by simp), if_neg (by simp)]
          | false =>
            rw [if_pos ⟨rfl, rfl⟩, if_pos ⟨c.1, c.2, rfl⟩]
            show f ((x : Int) - ((8 * l + k : Nat) : Int)).toNat = _
            congr 1
            omega
        · rw [decide_eq_false c, if_neg (by simp), if_neg (fun e => c ⟨e.1, e.2.1⟩)]
  | r + 1, i, D', hi, h => by
    have h1 := live_e (D := D') (t := isWord D' ((8 * l + k + i : Nat) : Int)) h.off h.fuse (by unfold isWord; rw [decide_eq_true_eq, h.n]; omega)
    have hs : Sto D (storeF ((8 * l + k + i : Nat) : Int) (f i) D') (8 * l + k) (i + 1) f := by
      refine ⟨h.n, h.off, h.fuse, h.bad, h.med, by show D'.cnt + 1 = _; rw [h.cnt]; omega, fun z => ?_⟩
      show updZ D'.buf ((8 * l + k + i : Nat) : Int) (some (f i, false)) z = _
      unfold updZ
      by_cases e : z = ((8 * l + k + i : Nat) : Int)
      · subst e
        rw [if_pos rfl, if_pos (by omega)]
        congr 3
        omega
      · rw [if_neg e, h.buf z]
        by_cases c : ((8 * l + k : Nat) : Int) ≤ z ∧ z < ((8 * l + k : Nat) : Int) + i
        · rw [if_pos c, if_pos (by omega)]
        · rw [if_neg c, if_neg (by omega)]
    obtain ⟨E, e1, e2⟩ := stos_live D l k m f hl hk r (i + 1) _ (by omega) hs
    refine ⟨E, ?_, e2⟩
    unfold stos
    rw [h1.1, if_pos rfl, h1.2]
    exact e1
theorem put_calm {D : DevS} {l : Nat} {s : ByteArray} (h : Calm D) (hl : l < D.n) (hs : s.size = 64) : ∃ E, putE D (l : Int) s = (0, E) ∧ PutS D E l (8 * l) 8 (wdL s.data.toList) := by
  obtain ⟨E, e1, e2⟩ := stos_live D l 0 8 (wdL s.data.toList) hl (by omega) 8 0 D (by omega) (.start h _ _)
  refine ⟨E, ?_, e2⟩
  unfold putE
  rw [if_neg (by simp [hs]), if_pos (by unfold isLine; rw [decide_eq_true_eq]; omega), Int.toNat_natCast]
  exact e1
theorem putword_calm {D : DevS} {l k v : Nat} (h : Calm D) (hl : l < D.n) (hk : k < 8) : ∃ E, pwE D (l : Int) (k : Int) v = (0, E) ∧ PutS D E l (8 * l + k) 1 (fun _ => v) := by
  obtain ⟨E, e1, e2⟩ := stos_live D l k 1 (fun _ => v) hl (by omega) 1 0 D (by omega) (.start h _ _)
  refine ⟨E, ?_, e2⟩
  unfold pwE
  rw [if_neg (by omega), if_pos (by unfold isLine; rw [decide_eq_true_eq]; omega), Int.toNat_natCast, Int.toNat_natCast]
  exact e1
theorem calm_load {D : DevS} (h : Calm D) (i : Nat) : loadV D i = D.med i := by unfold loadV; rw [h.buf]
theorem getT_of {D : DevS} {l : Nat} {s : ByteArray} (h : Calm D) (hs : s.size = 64) (hm : ∀ k, k < 8 → D.med (8 * l + k) = wdL s.data.toList k) : (⟨(getT D l).toArray⟩ : ByteArray) = s := by
  have e : getT D l = s.data.toList := by
    unfold getT
    rw [calm_load h, calm_load h, calm_load h, calm_load h, calm_load h, calm_load h, calm_load h, calm_load h]
    have := hm 0 (by omega)
    rw [Nat.add_zero] at this
    rw [this, hm 1 (by omega), hm 2 (by omega), hm 3 (by omega), hm 4 (by omega), hm 5 (by omega), hm 6 (by omega), hm 7 (by omega)]
    exact cat_wdL 8 s.data.toList hs
  rw [e]
theorem took_of {D : DevS} {l : Nat} {s : ByteArray} (hl : l < D.n) (hs : s.size = 64) (hm : ∀ k, k < 8 → D.med (8 * l + k) = wdL s.data.toList k) : tookB D (l : Int) s = true := by
  unfold tookB
  rw [decide_eq_true hs, show isLine D (l : Int) = true by unfold isLine; rw [decide_eq_true_eq]; omega, Int.toNat_natCast, Bool.true_and, Bool.true_and, List.all_eq_true]
  intro k hk
  rw [List.mem_range] at hk
  simpa using hm k hk
theorem took_not {D : DevS} {l k : Nat} {s : ByteArray} (hk : k < 8) (hm : D.med (8 * l + k) ≠ wdL s.data.toList k) : tookB D (l : Int) s = false := by
  unfold tookB
  rw [Int.toNat_natCast, show ((List.range 8).all fun k => D.med (8 * l + k) == wdL s.data.toList k) = false by
    rw [List.all_eq_false]
    exact ⟨k, List.mem_range.2 hk, by simpa using hm⟩]
  simp

/-! ### wakes -/
def abcS : ByteArray := fullS ⟨#[97, 98, 99]⟩
theorem abc_size : abcS.size = 64 := fullS_size _
theorem abc_word : wdL abcS.data.toList 0 ≠ 0 := by decide +kernel
end Go.Proofs.YtgifjnniohcacaaGreat
