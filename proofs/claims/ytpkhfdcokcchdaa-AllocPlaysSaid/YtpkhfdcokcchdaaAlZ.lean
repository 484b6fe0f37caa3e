/-
  Layer 14: AllocPlays: what each act makes of both sides.
-/
import Derived.Test.YtpkhfdcokcchdaaAlY
import Derived.Test.YtpkhfdcokcchdaaAlS
import Derived.Test.YtpkhfdcokcchdaaFrameI
namespace Go.Proofs.Ytpkhfdcokcchdaa
open Go.RowKit

theorem okE_parts {N : Nat} {a n : Int} (h : okE N a n) : ∃ x k : Nat, a = x ∧ n = k ∧ 1 ≤ k ∧ x + k ≤ N := by
  obtain ⟨h1, h2, h3, h4⟩ := h
  exact ⟨a.toNat, n.toNat, by omega, by omega, by omega, by omega⟩
theorem use_both (N : Nat) (m : Nat → Bool) (l : List (Nat × Nat)) (L : Nat) (a n : Int) (hr : RunsF 0 N l) (hl : l = extP m N) (hL : L = l.length) (hN : N ≤ 65536) :
    (∃ g : Nat, g ≠ 0 ∧ (∀ W ao cap, SetIs W N l ao cap → Calls Try.prog 18 #[.agg #[.int .i64 N, .slice ao L cap], .agg #[.int .i64 a, .int .i64 n]] W fun e w' => e = .returned (.tuple #[.agg #[.int .i64 0, .slice none 0 0], .int .i64 g]) ∧ Gr [] W w') ∧
      (∀ W ma mc, RdM W ma N m → N ≤ mc → Calls Try.prog 19 #[.slice ma N mc, .int .i64 a, .int .i64 n, .bool false] W fun e w' => e = .returned (.tuple #[.slice none 0 0, .int .i64 g]) ∧ Gr [] W w')) ∨
    (∃ (l' : List (Nat × Nat)) (L' : Nat) (m' : Nat → Bool), L' = l'.length ∧ l' = extP m' N ∧ (∀ W ao cap, SetIs W N l ao cap → Calls Try.prog 18 #[.agg #[.int .i64 N, .slice ao L cap], .agg #[.int .i64 a, .int .i64 n]] W fun e w' => ∃ ao' cap', e = .returned (.tuple #[.agg #[.int .i64 N, .slice ao' L' cap'], .int .i64 0]) ∧ SetIs w' N l' ao' cap' ∧ Gr [] W w') ∧
      (∀ W ma mc, RdM W ma N m → N ≤ mc → Calls Try.prog 19 #[.slice ma N mc, .int .i64 a, .int .i64 n, .bool false] W fun e w' => ∃ na nc, e = .returned (.tuple #[.slice na N nc, .int .i64 0]) ∧ RdM w' na N m' ∧ N ≤ nc ∧ Gr [] W w')) := by
  subst hL
  have hcov : ∀ b, b < N → covB l b = m b := fun b hb => by rw [hl, (extP_ok m N).2 b, decide_eq_true hb, Bool.true_and]
  by_cases ho : okE N a n
  · obtain ⟨x, k, rfl, rfl, hk, hx⟩ := okE_parts ho
    cases hu : useL l x k with
    | none =>
      left
      refine ⟨8, by omega, fun W ao cap h => ause_none N l ao cap x k W h ho hu, fun W ma mc h hc => rset_none N x k m ma mc false W h hN hc hk hx ?_⟩
      obtain ⟨b, hb, hf⟩ := useL_none hr hk hu
      refine ⟨b, hb, ?_⟩
      rw [← hcov b (by simp [inR] at hb; omega)]
      exact hf
    | some l' =>
      right
      obtain ⟨u1, u2, u3, _⟩ := useL_some hr hk hu
      refine ⟨l', l'.length, setM m x k false, rfl, extP_is u1 (fun b hb => ?_), fun W ao cap h => ?_, fun W ma mc h hc => ?_⟩
      · rw [u2, hcov b hb]
        unfold setM
        cases inR x k b <;> simp
      · refine (ause_some N l l' ao cap x k W h ho hu).mono ?_
        rintro e w' ⟨ao', cap', rfl, hs, g, -⟩
        exact ⟨_, _, rfl, hs, g⟩
      · refine (rset_yes N x k m ma mc false W h hN hc hk hx (fun b hb => ?_)).mono ?_
        · rw [← hcov b (by simp [inR] at hb; omega), u3 b hb]; rfl
        · rintro e w' ⟨g, c, rfl, h1, h2, h3⟩
          exact ⟨_, _, rfl, h1, h2, h3⟩
  · exact .inl ⟨2, by omega, fun W ao cap h => ause_arg N l ao cap a n W h ho, fun W ma mc h hc => rset_arg N ma mc a n false W hN ho⟩
theorem give_both (N : Nat) (m : Nat → Bool) (l : List (Nat × Nat)) (L : Nat) (a n : Int) (hr : RunsF 0 N l) (hl : l = extP m N) (hL : L = l.length) (hN : N ≤ 65536) :
    (∃ g : Nat, g ≠ 0 ∧ (∀ W ao cap, SetIs W N l ao cap → Calls Try.prog 20 #[.agg #[.int .i64 N, .slice ao L cap], .agg #[.int .i64 a, .int .i64 n]] W fun e w' => e = .returned (.tuple #[.agg #[.int .i64 0, .slice none 0 0], .int .i64 g]) ∧ Gr [] W w') ∧
      (∀ W ma mc, RdM W ma N m → N ≤ mc → Calls Try.prog 19 #[.slice ma N mc, .int .i64 a, .int .i64 n, .bool true] W fun e w' => e = .returned (.tuple #[.slice none 0 0, .int .i64 g]) ∧ Gr [] W w')) ∨
    (∃ (l' : List (Nat × Nat)) (L' : Nat) (m' : Nat → Bool), L' = l'.length ∧ l' = extP m' N ∧ (∀ W ao cap, SetIs W N l ao cap → Calls Try.prog 20 #[.agg #[.int .i64 N, .slice ao L cap], .agg #[.int .i64 a, .int .i64 n]] W fun e w' => ∃ ao' cap', e = .returned (.tuple #[.agg #[.int .i64 N, .slice ao' L' cap'], .int .i64 0]) ∧ SetIs w' N l' ao' cap' ∧ Gr [] W w') ∧
      (∀ W ma mc, RdM W ma N m → N ≤ mc → Calls Try.prog 19 #[.slice ma N mc, .int .i64 a, .int .i64 n, .bool true] W fun e w' => ∃ na nc, e = .returned (.tuple #[.slice na N nc, .int .i64 0]) ∧ RdM w' na N m' ∧ N ≤ nc ∧ Gr [] W w')) := by
  subst hL
  have hcov : ∀ b, b < N → covB l b = m b := fun b hb => by rw [hl, (extP_ok m N).2 b, decide_eq_true hb, Bool.true_and]
  by_cases ho : okE N a n
  · obtain ⟨x, k, rfl, rfl, hk, hx⟩ := okE_parts ho
    cases hu : giveL l x k with
    | none =>
      left
      refine ⟨8, by omega, fun W ao cap h => agive_none N l ao cap x k W h ho hu, fun W ma mc h hc => rset_none N x k m ma mc true W h hN hc hk hx ?_⟩
      obtain ⟨b, hb, hf⟩ := giveL_none hr hk hu
      refine ⟨b, hb, ?_⟩
      rw [← hcov b (by simp [inR] at hb; omega)]
      exact hf
    | some l' =>
      right
      obtain ⟨u1, u2, u3, _⟩ := giveL_some hr hk hx hu
      refine ⟨l', l'.length, setM m x k true, rfl, extP_is u1 (fun b hb => ?_), fun W ao cap h => ?_, fun W ma mc h hc => ?_⟩
      · rw [u2, hcov b hb]
        unfold setM
        cases inR x k b <;> simp
      · refine (agive_some N l l' ao cap x k W h ho hu).mono ?_
        rintro e w' ⟨ao', cap', rfl, hs, g, -⟩
        exact ⟨_, _, rfl, hs, g⟩
      · refine (rset_yes N x k m ma mc true W h hN hc hk hx (fun b hb => ?_)).mono ?_
        · rw [← hcov b (by simp [inR] at hb; omega), u3 b hb]; rfl
        · rintro e w' ⟨g, c, rfl, h1, h2, h3⟩
          exact ⟨_, _, rfl, h1, h2, h3⟩
  · exact .inl ⟨2, by omega, fun W ao cap h => agive_arg N l ao cap a n W h ho, fun W ma mc h hc => rset_arg N ma mc a n true W hN ho⟩
theorem take_both (N : Nat) (m : Nat → Bool) (l : List (Nat × Nat)) (L : Nat) (n : Int) (hr : RunsF 0 N l) (hl : l = extP m N) (hL : L = l.length) (hN : N ≤ 65536) (hn : n ≤ 9223372036854775807) :
    (∃ g : Nat, g ≠ 0 ∧ (∀ W ao cap, SetIs W N l ao cap → Calls Try.prog 21 #[.agg #[.int .i64 N, .slice ao L cap], .int .i64 n] W fun e w' => e = .returned (.tuple #[.agg #[.int .i64 0, .slice none 0 0], .slice none 0 0, .int .i64 g]) ∧ Gr [] W w') ∧
      (∀ W ma mc, RdM W ma N m → N ≤ mc → Calls Try.prog 22 #[.slice ma N mc, .int .i64 n] W fun e w' => e = .returned (.tuple #[.slice none 0 0, .slice none 0 0, .int .i64 g]) ∧ Gr [] W w')) ∨
    (∃ (l' : List (Nat × Nat)) (L' : Nat) (m' : Nat → Bool) (t : List (Nat × Nat)) (T : Nat), T = t.length ∧ T ≤ N ∧ L' = l'.length ∧ l' = extP m' N ∧ (∀ W ao cap, SetIs W N l ao cap → Calls Try.prog 21 #[.agg #[.int .i64 N, .slice ao L cap], .int .i64 n] W fun e w' => ∃ ao' cap' a2 c2, e = .returned (.tuple #[.agg #[.int .i64 N, .slice ao' L' cap'], .slice a2 T c2, .int .i64 0]) ∧ SetIs w' N l' ao' cap' ∧ Rd2 w' a2 (zl t) ∧ Gr [] W w') ∧
      (∀ W ma mc, RdM W ma N m → N ≤ mc → Calls Try.prog 22 #[.slice ma N mc, .int .i64 n] W fun e w' => ∃ na nc a2 c2, e = .returned (.tuple #[.slice na N nc, .slice a2 T c2, .int .i64 0]) ∧ RdM w' na N m' ∧ N ≤ nc ∧ Rd2 w' a2 (zl t) ∧ Gr [] W w')) := by
  subst hL
  have hcov : ∀ b, b < N → covB l b = m b := fun b hb => by rw [hl, (extP_ok m N).2 b, decide_eq_true hb, Bool.true_and]
  by_cases h1 : n < 1
  · left
    refine ⟨2, by omega, fun W ao cap h => ?_, fun W ma mc h hc => rtake_arg N ma mc n W h1⟩
    have := atake_no N l ao cap n W h (.inl h1)
    rw [if_pos h1] at this
    exact this
  · obtain ⟨k, rfl⟩ := Int.eq_ofNat_of_zero_le (show 0 ≤ n by omega)
    have hk : 1 ≤ k := by omega
    by_cases h2 : sumL l < k
    · left
      refine ⟨12, by omega, fun W ao cap h => ?_, fun W ma mc h hc => ?_⟩
      · have := atake_no N l ao cap (k : Int) W h (.inr (by omega))
        rw [if_neg (by omega)] at this
        exact this
      · refine (rtake_any N k m ma mc W h hN hc hk (by omega)).mono ?_
        rintro e w' ⟨g, ⟨_, rfl⟩ | ⟨q, _⟩⟩
        · exact ⟨rfl, g⟩
        · rw [← hl] at q; omega
    · have hs : k ≤ sumL l := by omega
      have HT := takeL_ok hr hk hs
      right
      obtain ⟨l', hl'⟩ : ∃ x, x = (takeL l k).1 := ⟨_, rfl⟩
      obtain ⟨t, ht⟩ : ∃ x, x = (takeL l k).2 := ⟨_, rfl⟩
      rw [← hl', ← ht] at HT
      refine ⟨l', l'.length, leftM m t t.length, t, t.length, rfl, (by have q1 := len_le HT.taken; have q2 := sumL_le HT.taken; omega), rfl, extP_is HT.runs (fun b hb => ?_), fun W ao cap h => ?_, fun W ma mc h hc => ?_⟩
      · have := HT.cov b
        rw [hcov b hb] at this
        unfold leftM
        rw [List.take_length, this]
        cases q : covB t b with
        | false => simp
        | true => rw [HT.apart b q]; simp
      · refine (atake_yes N l ao cap k W h hk hs).mono ?_
        rw [← hl', ← ht]
        rintro e w' ⟨ao', cap', a2, c2, rfl, h1, ⟨a, c, hv, hrd, -⟩, g⟩
        injection hv with q1 q2 q3
        subst q1
        exact ⟨_, _, _, _, rfl, h1, hrd, g⟩
      · refine (rtake_any N k m ma mc W h hN hc hk (by omega)).mono ?_
        rw [← hl, ← ht]
        rintro e w' ⟨g, ⟨q, _⟩ | ⟨_, na, nc, a2, c2, rfl, h1, h2, ⟨a, c, hv, hrd, -⟩⟩⟩
        · omega
        · injection hv with q1 q2 q3
          subst q1
          exact ⟨_, _, _, _, rfl, h2, h1, hrd, g⟩

/-! ### The variables of the law -/
theorem holds_int2 {W : World} {B o : Nat} {x y : Value} {t : TypeId} {z : Value} (h : Holds W B #[x, y] t) (hc : W.cell? ⟨B, o, none⟩ = some z) : z = x ∨ z = y := by
  rw [h.cell] at hc
  match o, hc with
  | 0, hc => simp at hc; exact .inl hc.symm
  | 1, hc => simp at hc; exact .inr hc.symm
  | o + 2, hc => simp at hc
theorem rd_far {W : World} {B : Nat} {x : Int} {a c : Option Addr} {n k : Nat} {l : List (Nat × Nat)} {t : TypeId} (h : Holds W B #[.int .i64 x, .slice a n k] t) (hs : Rd2 W c (zl l)) : l = [] ∨ ∀ b o, c = some ⟨b, o, none⟩ → b ≠ B := by
  cases l with
  | nil => exact .inl rfl
  | cons e r =>
    right
    intro b o he hb
    subst hb
    obtain ⟨b', o', h1, h2, c1, c2⟩ := hs 0 ((e.1 : Int), (e.2 : Int)) rfl
    rw [he] at h1
    injection h1 with h1
    injection h1 with q1 q2
    subst q1 q2
    rw [h.cell] at c2
    rw [h.cell] at c1
    match o, c1, c2 with
    | 0, _, c2 => simp at c2
    | 1, c1, _ => simp at c1
    | o + 2, c1, _ => simp at c1
theorem rd_grB {w w' : World} {B : Nat} {l : List (Nat × Nat)} {ao : Option Addr} (h : Rd2 w ao (zl l)) (g : Gr [B] w w') (hf : l = [] ∨ ∀ b o, ao = some ⟨b, o, none⟩ → b ≠ B) : Rd2 w' ao (zl l) := by
  rcases hf with rfl | hf
  · exact Rd2.nil _ _
  · exact h.gr g (fun b o e => by simpa using hf b o e)
theorem set_far {W : World} {B N : Nat} {x : Int} {a c : Option Addr} {n k cap : Nat} {l : List (Nat × Nat)} {t : TypeId} (h : Holds W B #[.int .i64 x, .slice a n k] t) (hs : SetIs W N l c cap) : l = [] ∨ ∀ b o, c = some ⟨b, o, none⟩ → b ≠ B := rd_far h hs.rd
theorem rdM_far {W : World} {B N : Nat} {x : Int} {a c : Option Addr} {n k : Nat} {m : Nat → Bool} {t : TypeId} (h : Holds W B #[.int .i64 x, .slice a n k] t) (hs : RdM W c N m) : N = 0 ∨ ∀ b o, c = some ⟨b, o, none⟩ → b ≠ B := by
  by_cases h0 : N = 0
  · exact .inl h0
  · right
    intro b o he hb
    subst hb
    obtain ⟨b', o', h1, h2, c1⟩ := hs 0 (by omega)
    rw [he] at h1
    injection h1 with h1
    injection h1 with q1 q2
    subst q1 q2
    rcases holds_int2 h c1 with q | q <;> cases q
theorem SetIs.grB {w w' : World} {N B : Nat} {l : List (Nat × Nat)} {ao : Option Addr} {cap : Nat} (h : SetIs w N l ao cap) (g : Gr [B] w w') (hf : l = [] ∨ ∀ b o, ao = some ⟨b, o, Option.none⟩ → b ≠ B) : SetIs w' N l ao cap := by
  refine ⟨h.runs, h.hi, ?_, h.cap1, h.cap2, h.none⟩
  rcases hf with rfl | hf
  · exact Rd2.nil _ _
  · exact h.rd.gr g (fun b o e => by simpa using hf b o e)
theorem RdM.grB {w w' : World} {N B : Nat} {m : Nat → Bool} {ao : Option Addr} (h : RdM w ao N m) (g : Gr [B] w w') (hf : N = 0 ∨ ∀ b o, ao = some ⟨b, o, none⟩ → b ≠ B) : RdM w' ao N m := by
  rcases hf with rfl | hf
  · exact fun b hb => by omega
  · exact h.gr g (fun b o e => by simpa using hf b o e)
/-- The program's set in its variable, and the document's truths. -/
structure APl (w W : World) (Bs N L : Nat) (l : List (Nat × Nat)) (m : Nat → Bool) (ao ma : Option Addr) (cap mc : Nat) : Prop where
  box : Holds W Bs #[.int .i64 N, .slice ao L cap] 25
  set : SetIs W N l ao cap
  mm : RdM W ma N m
  hmc : N ≤ mc
  len : L = l.length
  eqv : l = extP m N
  gr : Gr [] w W
  lo : w.heap.size ≤ Bs
theorem APl.gr0 {w W W' : World} {Bs N L : Nat} {l : List (Nat × Nat)} {m : Nat → Bool} {ao ma : Option Addr} {cap mc : Nat} (h : APl w W Bs N L l m ao ma cap mc) (g : Gr [] W W') : APl w W' Bs N L l m ao ma cap mc := ⟨h.box.gr0 g, h.set.gr0 g, h.mm.gr0 g, h.hmc, h.len, h.eqv, h.gr.next0 g, h.lo⟩
theorem APl.put {w W : World} {Bs N L L' : Nat} {l l' : List (Nat × Nat)} {m m' : Nat → Bool} {ao ma ao' ma' : Option Addr} {cap mc cap' mc' : Nat} (h : APl w W Bs N L l m ao ma cap mc) (hs : SetIs W N l' ao' cap') (hm : RdM W ma' N m') (hc : N ≤ mc') (hL : L' = l'.length) (he : l' = extP m' N) :
    APl w ((W.setCell ⟨Bs, 0, none⟩ (.int .i64 N)).setCell ⟨Bs, 1, none⟩ (.slice ao' L' cap')) Bs N L' l' m' ao' ma' cap' mc' := by
  have g : Gr [Bs] W ((W.setCell ⟨Bs, 0, none⟩ (.int .i64 N)).setCell ⟨Bs, 1, none⟩ (.slice ao' L' cap')) := ((Gr.refl _ _).setCell (p := ⟨Bs, 0, none⟩) (.inl (by simp)) _).setCell (p := ⟨Bs, 1, none⟩) (.inl (by simp)) _
  exact ⟨(h.box.set 0 _).set 1 _, hs.grB g (set_far h.box hs), hm.grB g (rdM_far h.box hm), hc, hL, he, h.gr.nextN g (fun x hx => by simp at hx; subst hx; exact .inr h.lo), h.lo⟩

end Go.Proofs.Ytpkhfdcokcchdaa
