/-
  PmWears.
-/
import Derived.Test.YtphaaebbofgdnaaPmY
namespace Go.Proofs.Ytphaaebbofgdnaa
open Go.RowKit

theorem WzIs.gr {W W' : World} {a : DevA} {g : Nat → Nat} {t : Nat → Int} {c : Nat} {bs : List Nat} (h : WzIs W a g t c) (k : Gr bs W W') (hn : ∀ b ∈ a.all, b ∉ bs) : WzIs W' a g t c := by
  obtain ⟨buf, med, wear, c0, d, r⟩ := h
  exact ⟨buf, med, wear, c0, d.gr k hn, r⟩
theorem WzIs.two {W : World} {a : DevA} {g : Nat → Nat} {t : Nat → Int} {c : Nat} (h : WzIs W a g t c) (j : Nat) (hj : j < 24) : g j = 0 ∨ g j = 1 ∨ g j = 2 := by
  obtain ⟨buf, med, wear, c0, d, hg, r⟩ := h
  rcases hg j hj with q | q | q
  · exact .inl q.1
  · exact .inr (.inl q.1)
  · exact .inr (.inr q.1)
theorem WzIs.worn {W : World} {a : DevA} {g : Nat → Nat} {t : Nat → Int} {c : Nat} (h : WzIs W a g t c) (l : Nat) (hl : l < 3) : 0 ≤ t l ∧ t l ≤ (c : Int) := by
  obtain ⟨buf, med, wear, c0, d, hg, ht, hw, _⟩ := h
  rw [← ht l hl]
  exact hw l
theorem wz_wear {W : World} {a : DevA} {g : Nat → Nat} {t : Nat → Int} {c : Nat} (h : WzIs W a g t c) (l : Nat) (hl : l < 3) : Calls Try.prog 28 #[.pointer (some ⟨a.bd, 0, none⟩), .int .i64 (l : Int)] W fun e w' => e = .returned (.int .i64 (t l)) ∧ W = w' := by
  obtain ⟨buf, med, wear, c0, d, hg, ht, hw, _⟩ := h
  rw [← ht l hl]
  exact wear_in a _ l W d hl

def wordR (g : Nat → Nat) : Array Value := rowOf (fun j => .int .u8 (g j : Int)) 24
def wantR (t : Nat → Int) : Array Value := rowOf (fun l => .int .i64 (t l)) 3
/-- The law's run: the device has g1, t1; the law's arrays hold g2, t2. -/
structure Wea (w wr : World) (a : DevA) (bt bw : Nat) (g1 g2 : Nat → Nat) (t1 t2 : Nat → Int) (c : Nat) : Prop where
  dev : WzIs wr a g1 t1 c
  want : Holds wr bt (wantR t2) 56
  words : Holds wr bw (wordR g2) 57
  gr : Gr [] w wr
  lo : w.heap.size ≤ bt ∧ w.heap.size ≤ bw ∧ bt ≠ bw
  nt : bt ∉ a.all
  nw : bw ∉ a.all
  la : ∀ b ∈ a.all, w.heap.size ≤ b
section
variable {w wr w' : World} {a : DevA} {bt bw : Nat} {g1 g2 g3 : Nat → Nat} {t1 t2 t3 : Nat → Int} {c c' : Nat}
theorem Wea.call (h : Wea w wr a bt bw g1 g2 t1 t2 c) (d : WzIs w' a g3 t3 c') (g : Gr a.all wr w') : Wea w w' a bt bw g3 g2 t3 t2 c' :=
  ⟨d, h.want.gr g h.nt, h.words.gr g h.nw, h.gr.nextN g (fun x hx => .inr (h.la x hx)), h.lo, h.nt, h.nw, h.la⟩
theorem Wea.setW (h : Wea w wr a bt bw g1 g2 t1 t2 c) (j x : Nat) : Wea w (wr.setCell ⟨bw, j, none⟩ (.int .u8 (x : Int))) a bt bw g1 (fun i => if i = j then x else g2 i) t1 t2 c := by
  have g := grSet wr bw j (.int .u8 (x : Int))
  refine ⟨h.dev.gr g (fun b hb e => h.nw (by simp at e; subst e; exact hb)), h.want.gr g (by simpa using h.lo.2.2), ?_, h.gr.nextN g (fun y hy => by simp at hy; subst hy; exact .inr h.lo.2.1), h.lo, h.nt, h.nw, h.la⟩
  have r := h.words.set j (.int .u8 (x : Int))
  unfold wordR at r
  rw [rowOf_set] at r
  unfold wordR
  rw [rowOf_congr (g' := fun i => if i = j then .int .u8 (x : Int) else .int .u8 (g2 i : Int)) (fun i _ => by dsimp only; split <;> rfl)]
  exact r
theorem Wea.setT (h : Wea w wr a bt bw g1 g2 t1 t2 c) (l : Nat) (x : Int) : Wea w (wr.setCell ⟨bt, l, none⟩ (.int .i64 x)) a bt bw g1 g2 t1 (fun i => if i = l then x else t2 i) c := by
  have g := grSet wr bt l (.int .i64 x)
  refine ⟨h.dev.gr g (fun b hb e => h.nt (by simp at e; subst e; exact hb)), ?_, h.words.gr g (by simpa using fun e => h.lo.2.2 e.symm), h.gr.nextN g (fun y hy => by simp at hy; subst hy; exact .inr h.lo.1), h.lo, h.nt, h.nw, h.la⟩
  have r := h.want.set l (.int .i64 x)
  unfold wantR at r
  rw [rowOf_set] at r
  unfold wantR
  rw [rowOf_congr (g' := fun i => if i = l then .int .i64 x else .int .i64 (t2 i)) (fun i _ => by dsimp only; split <;> rfl)]
  exact r
theorem Wea.cw (h : Wea w wr a bt bw g1 g2 t1 t2 c) (j : Nat) (hj : j < 24) : wr.cell? ⟨bw, j, none⟩ = some (.int .u8 (g2 j : Int)) ∧ wr.frozen? ⟨bw, j, none⟩ = false :=
  ⟨by rw [h.words.cell]; unfold wordR; rw [rowOf_get _ _ _ hj], h.words.frozen j⟩
theorem Wea.ct (h : Wea w wr a bt bw g1 g2 t1 t2 c) (l : Nat) (hl : l < 3) : wr.cell? ⟨bt, l, none⟩ = some (.int .i64 (t2 l)) ∧ wr.frozen? ⟨bt, l, none⟩ = false :=
  ⟨by rw [h.want.cell]; unfold wantR; rw [rowOf_get _ _ _ hl], h.want.frozen l⟩
theorem Wea.congr (h : Wea w wr a bt bw g1 g2 t1 t2 c) (hg : ∀ j, j < 24 → g2 j = g3 j) (ht : ∀ l, l < 3 → t2 l = t3 l) : Wea w wr a bt bw g1 g3 t1 t3 c := by
  refine ⟨h.dev, ?_, ?_, h.gr, h.lo, h.nt, h.nw, h.la⟩
  · have r := h.want
    unfold wantR at r ⊢
    rw [rowOf_congr (g' := fun l => .int .i64 (t3 l)) (fun i hi => by rw [ht i hi])] at r
    exact r
  · have r := h.words
    unfold wordR at r ⊢
    rw [rowOf_congr (g' := fun j => .int .u8 (g3 j : Int)) (fun i hi => by rw [hg i hi])] at r
    exact r
end
theorem minIsP (P : Program) (L m k : Nat) (kI : Int) (hk : kI = k) (h : m = min L k) (ts : Array TypeId) (t : TypeId) (w : World) : (Builtin.min_ ts t #[.int .i64 (L : Int), .int .i64 kI]).run P w = .ok (.int .i64 (m : Int)) w := by
  subst hk
  rw [run_min_int2]
  have : (if (k : Int) < (L : Int) then (k : Int) else (L : Int)) = (m : Int) := by split <;> omega
  rw [this]

/-! ### The flush's loop: done below m -/
def flG (g : Nat → Nat) (l m : Nat) : Nat → Nat := fun j => if j / 8 = l ∧ j < m then min (2 * g j) 2 else g j
def feG (g : Nat → Nat) (m : Nat) : Nat → Nat := fun j => if j < m ∧ g j = 2 then 0 else g j
theorem flG_at (g : Nat → Nat) (l m : Nat) : flG g l m m = g m := by unfold flG; rw [if_neg (by omega)]
theorem feG_at (g : Nat → Nat) (m : Nat) : feG g m m = g m := by unfold feG; rw [if_neg (by omega)]
theorem flG_next (g : Nat → Nat) (l m x y : Nat) (h1 : 8 * l ≤ m) (h2 : m < 8 * l + 8) (hy : y = min (2 * g m) 2) (j : Nat) : (if j = m then y else if j = m then x else flG g l m j) = flG g l (m + 1) j := by
  unfold flG
  by_cases e : j = m
  · subst e
    rw [if_pos rfl, if_pos ⟨by omega, by omega⟩, hy]
  · rw [if_neg e, if_neg e]
    by_cases q : j / 8 = l ∧ j < m
    · rw [if_pos q, if_pos ⟨q.1, by omega⟩]
    · rw [if_neg q, if_neg (fun r => q ⟨r.1, by omega⟩)]
theorem feG_next (g : Nat → Nat) (m : Nat) (h : g m = 2) (j : Nat) : (if j = m then 0 else feG g m j) = feG g (m + 1) j := by
  unfold feG
  by_cases e : j = m
  · subst e
    rw [if_pos rfl, if_pos ⟨by omega, h⟩]
  · rw [if_neg e]
    by_cases q : j < m ∧ g j = 2
    · rw [if_pos q, if_pos ⟨by omega, q.2⟩]
    · rw [if_neg q, if_neg (fun r => q ⟨by omega, r.2⟩)]
theorem feG_skip (g : Nat → Nat) (m : Nat) (h : g m ≠ 2) (j : Nat) : feG g m j = feG g (m + 1) j := by
  unfold feG
  by_cases q : j < m ∧ g j = 2
  · rw [if_pos q, if_pos ⟨by omega, q.2⟩]
  · rw [if_neg q, if_neg (fun r => by
      by_cases e : j = m
      · subst e; exact h r.2
      · exact q ⟨by omega, r.2⟩)]
theorem flG_all (g : Nat → Nat) (l j : Nat) : flG g l (8 * l + 8) j = if j / 8 = l then min (2 * g j) 2 else g j := by
  unfold flG
  by_cases q : j / 8 = l
  · rw [if_pos ⟨q, by omega⟩, if_pos q]
  · rw [if_neg (fun r => q r.1), if_neg q]
theorem flG_zero (g : Nat → Nat) (l j : Nat) : g j = flG g l (8 * l) j := by
  unfold flG
  rw [if_neg (by omega)]
theorem feG_all (g : Nat → Nat) (j : Nat) (h : j < 24) : feG g 24 j = if g j = 2 then 0 else g j := by
  unfold feG
  by_cases q : g j = 2
  · rw [if_pos ⟨h, q⟩, if_pos q]
  · rw [if_neg (fun r => q r.2), if_neg q]
theorem feG_zero (g : Nat → Nat) (j : Nat) : g j = feG g 0 j := by unfold feG; rw [if_neg (by omega)]
def upT (t t' : Nat → Int) (l : Nat) : Nat → Int := fun i => if i < l then t' i else t i
theorem upT_at (t t' : Nat → Int) (l : Nat) : upT t t' l l = t l := by unfold upT; rw [if_neg (by omega)]
theorem upT_next (t t' : Nat → Int) (l i : Nat) : (if i = l then t' l else upT t t' l i) = upT t t' (l + 1) i := by
  unfold upT
  by_cases e : i = l
  · subst e; rw [if_pos rfl, if_pos (by omega)]
  · rw [if_neg e]
    by_cases q : i < l
    · rw [if_pos q, if_pos (by omega)]
    · rw [if_neg q, if_neg (by omega)]
theorem upT_skip (t t' : Nat → Int) (l i : Nat) (h : t' l = t l) : upT t t' l i = upT t t' (l + 1) i := by
  rw [← upT_next]
  by_cases e : i = l
  · subst e; rw [if_pos rfl, upT_at, h]
  · rw [if_neg e]

open Classical in
noncomputable def fenT (g : Nat → Nat) (t : Nat → Int) : Nat → Int := fun l => if ∃ j, j < 8 ∧ g (8 * l + j) = 2 then t l + 1 else t l
theorem wz_fenceT {a : DevA} {w : World} {g : Nat → Nat} {t : Nat → Int} {c : Nat} (hc : c < 1000000) (h : WzIs w a g t c) :
    Calls Try.prog 19 #[.pointer (some ⟨a.bd, 0, none⟩)] w fun e w' => e = .returned (.int .i64 0) ∧ WzIs w' a (fun j => if g j = 2 then 0 else g j) (fenT g t) (c + 1) ∧ Gr a.all w w' := wz_fence hc h
theorem fenT_yes (g : Nat → Nat) (t : Nat → Int) (l : Nat) (h : ∃ j, j < 8 ∧ g (8 * l + j) = 2) : fenT g t l = t l + 1 := by unfold fenT; rw [if_pos h]
theorem fenT_no (g : Nat → Nat) (t : Nat → Int) (l : Nat) (h : ¬ ∃ j, j < 8 ∧ g (8 * l + j) = 2) : fenT g t l = t l := by unfold fenT; rw [if_neg h]

end Go.Proofs.Ytphaaebbofgdnaa
