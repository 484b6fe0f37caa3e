/-
  PmLasts: the device's states.
-/
import Derived.Test.YtphaaebbofgdnaaPmX
namespace Go.Proofs.Ytphaaebbofgdnaa
open Go.RowKit

/-- What is pending when the members are lo, lo + 1 .. -/
theorem rising_all : ∀ (n lo : Nat) (L : List Nat), L.Pairwise (· < ·) → (∀ x, x ∈ L ↔ lo ≤ x ∧ x < lo + n) → L = List.range' lo n
  | 0, lo, L, hp, h => by
    cases L with
    | nil => rfl
    | cons x t => have := (h x).1 (by simp); omega
  | n + 1, lo, L, hp, h => by
    cases L with
    | nil => have := (h lo).2 (by omega); cases this
    | cons x t =>
      rw [List.pairwise_cons] at hp
      have hx := (h x).1 (by simp)
      have hlo := (h lo).2 (by omega)
      have e : x = lo := by
        rcases List.mem_cons.1 hlo with q | q
        · exact q.symm
        · have := hp.1 lo q; omega
      subst e
      rw [List.range'_succ]
      congr 1
      refine rising_all n (x + 1) t hp.2 fun y => ?_
      constructor
      · intro hy
        have := hp.1 y hy
        have := (h y).1 (by simp [hy])
        omega
      · intro hy
        have := (h y).2 (by omega)
        rcases List.mem_cons.1 this with q | q
        · omega
        · exact q
theorem pend_none {D : DevS} {L : List Nat} (h : IsPend D L) (hb : ∀ z, D.buf z = none) : L = [] := by
  cases L with
  | nil => rfl
  | cons x t => exact absurd (hb x) ((h.2 x).1 (by simp))
theorem pend_upto {D : DevS} {L : List Nat} {n : Nat} (h : IsPend D L) (hb : ∀ x : Nat, D.buf (x : Int) ≠ none ↔ x < n) : L = List.range n := by
  rw [List.range_eq_range']
  exact rising_all n 0 L h.1 fun x => by rw [h.2 x, hb x]; omega
theorem bootS_range (n : Nat) (kp : Nat → Bool) : bootS (List.range n) kp = fun i => decide (i < n) && kp i := by
  funext i
  unfold bootS
  rw [Bool.eq_iff_iff, List.any_eq_true, Bool.and_eq_true, decide_eq_true_eq]
  constructor
  · rintro ⟨j, h1, h2⟩
    rw [List.length_range, List.mem_range] at h1
    rw [Bool.and_eq_true, decide_eq_true_eq, List.getElem?_range h1] at h2
    have : j = i := Option.some.inj h2.2
    subst this
    exact ⟨h1, h2.1⟩
  · rintro ⟨h1, h2⟩
    refine ⟨i, by rw [List.length_range, List.mem_range]; exact h1, ?_⟩
    rw [Bool.and_eq_true, decide_eq_true_eq, List.getElem?_range h1]
    exact ⟨h2, rfl⟩

/-! ### The device of PmLasts -/
def lz (buf : Int → Option (Nat × Bool)) (med : Nat → Nat) (wear : Nat → Int) (c : Nat) : DevS := { n := 2, med := med, buf := buf, wear := wear, bad := fun _ => false, fuse := 0, off := false, cnt := c }
/-- The buffer has just the words below j, with the values V. -/
def BufTo (buf : Int → Option (Nat × Bool)) (V : Nat → Nat) (j : Nat) : Prop := (∀ i : Nat, i < j → ∃ f, buf (i : Int) = some (V i, f)) ∧ ∀ z : Int, z < 0 ∨ (j : Int) ≤ z → buf z = none
theorem BufTo.none (V : Nat → Nat) : BufTo (fun _ => Option.none) V 0 := ⟨fun i h => by omega, fun _ _ => rfl⟩
theorem BufTo.store {buf : Int → Option (Nat × Bool)} {V : Nat → Nat} {j : Nat} (h : BufTo buf V j) : BufTo (updZ buf (j : Int) (some (V j, false))) V (j + 1) := by
  constructor
  · intro i hi
    unfold updZ
    by_cases e : (i : Int) = (j : Int)
    · obtain rfl : i = j := by omega
      exact ⟨false, by rw [if_pos e]⟩
    · rw [if_neg e]; exact h.1 i (by omega)
  · intro z hz
    unfold updZ
    rw [if_neg (by omega)]
    exact h.2 z (by omega)
theorem BufTo.flush {buf : Int → Option (Nat × Bool)} {V : Nat → Nat} {j : Nat} (h : BufTo buf V j) (l : Nat) : BufTo (flF buf l 8) V j := by
  constructor
  · intro i hi
    obtain ⟨f, e⟩ := h.1 i hi
    unfold flF
    split
    · exact ⟨true, by rw [e]; rfl⟩
    · exact ⟨f, e⟩
  · intro z hz
    unfold flF
    rw [h.2 z hz]
    split <;> rfl
/-- All that the buffer has is flushed in the lines below l. -/
def FluTo (buf : Int → Option (Nat × Bool)) (l : Nat) : Prop := ∀ i : Nat, i < 8 * l → ∀ p, buf (i : Int) = some p → p.2 = true
theorem FluTo.flush {buf : Int → Option (Nat × Bool)} {l : Nat} (h : FluTo buf l) : FluTo (flF buf l 8) (l + 1) := by
  intro i hi p e
  unfold flF at e
  by_cases q : 8 * (l : Int) ≤ (i : Int) ∧ (i : Int) < 8 * l + ((8 : Nat) : Int)
  · rw [if_pos q] at e
    cases hb : buf (i : Int) with
    | none => rw [hb] at e; cases e
    | some p' =>
      rw [hb] at e
      have : p = (p'.1, true) := by cases e; rfl
      rw [this]
  · rw [if_neg q] at e
    exact h i (by omega) p e
/-- What lasts. -/
def medTo (V : Nat → Nat) (m : Nat → Nat) : Prop := ∀ i, i < 16 → m i = V i
structure LzIs (W : World) (a : DevA) (V : Nat → Nat) (j l : Nat) (M : Nat → Nat) (c : Nat) : Prop where
  dev : ∃ buf med wear c0, DevIs W a (lz buf med wear c0) ∧ BufTo buf V j ∧ FluTo buf l ∧ (∀ i, i < 16 → med i = M i) ∧ (∀ k, 0 ≤ wear k ∧ wear k ≤ (c : Int)) ∧ c0 ≤ c
section
variable {a : DevA} {w : World} {V M : Nat → Nat} {j l c : Nat}
theorem LzIs.gr {W' : World} {bs : List Nat} (h : LzIs w a V j l M c) (k : Gr bs w W') (hn : ∀ b ∈ a.all, b ∉ bs) : LzIs W' a V j l M c := by
  obtain ⟨buf, med, wear, c0, d, r⟩ := h.dev
  exact ⟨buf, med, wear, c0, d.gr k hn, r⟩
theorem lz_store (z v : Nat) (hz : z < 16) (hv : v < 18446744073709551616) (hc : c < 1000000) (hj : z = j) (hV : V j = v) (h : LzIs w a V j 0 M c) :
    Calls Try.prog 17 #[.pointer (some ⟨a.bd, 0, none⟩), .int .i64 (z : Int), .int .u64 v] w fun e w' => e = .returned (.int .i64 0) ∧ LzIs w' a V (j + 1) 0 M (c + 1) ∧ Gr a.all w w' := by
  subst hj
  obtain ⟨buf, med, wear, c0, d, h1, h2, h3, hw, hcc⟩ := h.dev
  have hx := live_e (D := lz buf med wear c0) (t := isWord (lz buf med wear c0) (z : Int)) rfl rfl (by unfold isWord lz; rw [decide_eq_true_eq]; show 0 ≤ (z : Int) ∧ (z : Int) < 8 * ((2 : Nat) : Int); omega)
  refine (store_any a _ (z : Int) v w d hv (by show c0 < _; omega)).mono ?_
  rintro e w' ⟨rfl, d2, q⟩
  rw [hx.1]
  rw [hx.2] at d2
  subst hV
  exact ⟨rfl, ⟨_, med, wear, c0 + 1, d2, h1.store, (fun i hi => by omega), h3, fun l => by have := hw l; omega, by omega⟩, q⟩
theorem lz_flush (k : Nat) (hk : k < 2) (hc : c < 1000000) (h : LzIs w a V j l M c) :
    Calls Try.prog 18 #[.pointer (some ⟨a.bd, 0, none⟩), .int .i64 (k : Int)] w fun e w' => e = .returned (.int .i64 0) ∧ LzIs w' a V j (if k = l then l + 1 else 0) M (c + 1) ∧ Gr a.all w w' := by
  obtain ⟨buf, med, wear, c0, d, h1, h2, h3, hw, hcc⟩ := h.dev
  have hx := live_e (D := lz buf med wear c0) (t := isLine (lz buf med wear c0) (k : Int)) rfl rfl (by unfold isLine lz; rw [decide_eq_true_eq]; show 0 ≤ (k : Int) ∧ (k : Int) < ((2 : Nat) : Int); omega)
  refine (flush_any a _ (k : Int) w d (by show c0 < _; omega)).mono ?_
  rintro e w' ⟨rfl, d2, q⟩
  rw [hx.1]
  rw [hx.2] at d2
  refine ⟨rfl, ⟨_, med, wear, c0 + 1, d2, h1.flush k, ?_, h3, fun l => by have := hw l; omega, by omega⟩, q⟩
  split
  · rename_i e; subst e; exact h2.flush
  · exact fun i hi => by omega
theorem lz_fence (hc : c < 1000000) (h : LzIs w a V 16 2 M c) :
    Calls Try.prog 19 #[.pointer (some ⟨a.bd, 0, none⟩)] w fun e w' => e = .returned (.int .i64 0) ∧ LzIs w' a (fun _ => 0) 0 0 V (c + 1) ∧ Gr a.all w w' := by
  obtain ⟨buf, med, wear, c0, d, h1, h2, h3, hw, hcc⟩ := h.dev
  have hx := live_e (D := lz buf med wear c0) (t := true) rfl rfl rfl
  refine (fence_any a _ w d (by show c0 < _; omega) (fun l => by have := hw l; show 0 ≤ wear l ∧ wear l < _; omega)).mono ?_
  rintro e w' ⟨rfl, d2, q⟩
  rw [hx.1]
  rw [hx.2] at d2
  have hS : ∀ i : Nat, i < 16 → fluS (lz buf med wear c0) i = true := fun i hi => by
    obtain ⟨f, e⟩ := h1.1 i hi
    unfold fluS
    show ((buf (i : Int)).getD (0, false)).2 = true
    rw [e]
    exact h2 i (by omega) _ e
  have hb : perBuf (lz buf med wear c0) (fluS (lz buf med wear c0)) = fun _ => none := by
    funext z
    unfold perBuf
    by_cases e : 0 ≤ z ∧ z < 16
    · rw [if_pos ⟨e.1, hS _ (by omega)⟩]
    · show (if _ then none else buf z) = none
      rw [h1.2 z (by omega)]
      split <;> rfl
  refine ⟨rfl, ⟨fun _ => none, perMed (lz buf med wear c0) (fluS (lz buf med wear c0)), perWear (lz buf med wear c0) (linesOf (fluS (lz buf med wear c0))), c0 + 1, ?_, BufTo.none _, (fun i hi => by omega), fun i hi => ?_, fun k => ?_, by omega⟩, q⟩
  · unfold fenceF persistD at d2
    rw [hb] at d2
    exact d2
  · unfold perMed
    rw [if_pos ⟨hS i hi, rfl⟩]
    obtain ⟨f, e⟩ := h1.1 i hi
    show ((buf (i : Int)).getD (0, false)).1 = _
    rw [e]
    rfl
  · have := hw k
    unfold perWear
    have e : ∀ (p : Prop) [Decidable p], 0 ≤ (if p then wear k + 1 else wear k) ∧ (if p then wear k + 1 else wear k) ≤ ((c + 1 : Nat) : Int) := fun p _ => by split <;> omega
    exact e _
theorem lz_boot (kv : Value) (kl : Nat) (kp : Nat → Bool) (hk : KeepIs w kv kl kp) (hc : c < 1000000) (h : LzIs w a V 16 l M c) :
    Calls Try.prog 21 #[.pointer (some ⟨a.bd, 0, none⟩), kv] w fun e w' => e = .returned (.tuple #[]) ∧ LzIs w' a (fun _ => 0) 0 0 (fun i => if kp i = true then V i else M i) (c + 1) ∧ Gr a.all w w' := by
  obtain ⟨buf, med, wear, c0, d, h1, h2, h3, hw, hcc⟩ := h.dev
  refine (boot_any a _ kv kl kp w d hk (fun l => by have := hw l; show 0 ≤ wear l ∧ wear l < _; omega) (by show c0 ≤ _; omega)).mono ?_
  rintro e w' ⟨rfl, ⟨L, hL, d2⟩, q⟩
  have eL : L = List.range 16 := pend_upto hL fun x => by
    show buf (x : Int) ≠ none ↔ _
    constructor
    · intro hne
      by_cases e : x < 16
      · exact e
      · exact absurd (h1.2 x (by omega)) hne
    · intro hx
      obtain ⟨f, e⟩ := h1.1 x hx
      rw [e]; simp
  subst eL
  refine ⟨rfl, ⟨fun _ => none, perMed (lz buf med wear c0) (bootS (List.range 16) kp), perWear (lz buf med wear c0) (linesOf (bootS (List.range 16) kp)), c0, d2, BufTo.none _, (fun i hi => by omega), fun i hi => ?_, fun k => ?_, by omega⟩, q⟩
  · rw [bootS_range]
    unfold perMed
    obtain ⟨f, e⟩ := h1.1 i hi
    show (if (decide (i < 16) && kp i) = true ∧ false = false then ((buf (i : Int)).getD (0, false)).1 else med i) = _
    rw [e, h3 i hi, decide_eq_true hi]
    cases kp i <;> simp
  · have := hw k
    unfold perWear
    have e : ∀ (p : Prop) [Decidable p], 0 ≤ (if p then wear k + 1 else wear k) ∧ (if p then wear k + 1 else wear k) ≤ ((c + 1 : Nat) : Int) := fun p _ => by split <;> omega
    exact e _
theorem lz_pend (hc : c < 1000000) (h : LzIs w a V 0 l M c) :
    Calls Try.prog 20 #[.pointer (some ⟨a.bd, 0, none⟩)] w fun e w' => e = .returned (.slice none 0 0) ∧ Gr [] w w' := by
  obtain ⟨buf, med, wear, c0, d, h1, h2, h3, hw, hcc⟩ := h.dev
  refine (pending_any a _ w d (by show c0 ≤ _; omega)).mono ?_
  rintro e w' ⟨v, L, rfl, hL, _, hnil, q⟩
  have : L = [] := pend_none hL fun z => h1.2 z (by omega)
  exact ⟨by rw [hnil.2 this], q⟩
theorem lz_load (i : Nat) (hi : i < 16) (h : LzIs w a V 0 l M c) :
    Calls Try.prog 22 #[.pointer (some ⟨a.bd, 0, none⟩), .int .i64 (i : Int)] w fun e w' => e = .returned (.tuple #[.int .u64 (M i : Int), .int .i64 0]) ∧ Gr [] w w' := by
  obtain ⟨buf, med, wear, c0, d, h1, h2, h3, hw, hcc⟩ := h.dev
  refine (load_ok a _ i w d rfl (by show i < 8 * 2; omega)).mono ?_
  rintro e w' ⟨rfl, q⟩
  refine ⟨?_, q⟩
  have : loadV (lz buf med wear c0) i = M i := by
    unfold loadV
    show (match buf (i : Int) with | some p => p.1 | none => med i) = _
    rw [h1.2 _ (by omega), h3 i hi]
  rw [this]
theorem lz_media (i : Nat) (hi : i < 16) (h : LzIs w a V j l M c) :
    Calls Try.prog 23 #[.pointer (some ⟨a.bd, 0, none⟩), .int .i64 (i : Int)] w fun e w' => e = .returned (.int .u64 (M i : Int)) ∧ w = w' := by
  obtain ⟨buf, med, wear, c0, d, h1, h2, h3, hw, hcc⟩ := h.dev
  have := media_in a _ i w d (by show i < 8 * 2; omega)
  rw [show (lz buf med wear c0).med i = M i from h3 i hi] at this
  exact this
end

end Go.Proofs.Ytphaaebbofgdnaa
