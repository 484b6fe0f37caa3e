/-
  Layer 23: what each act makes of both sides.
-/
import Derived.Test.YtpkhfdcokcchdaaDesK
namespace Go.Proofs.Ytpkhfdcokcchdaa
open Go.RowKit

theorem grB_of {w w' : World} {b : Nat} (h : Gr [] w w') : Gr [b] w w' := h.mono (fun x hx => by simp at hx)
theorem grT_of {w w' : World} {bs : List Nat} (h : Gr [] w w') : Gr bs w w' := h.mono (fun x hx => by simp at hx)
theorem firstFreeR (L : List OpenR) (c : Int) : ∀ m : Nat, ∃ k : Nat, k ≤ m ∧ (∀ j : Nat, j < k → findR L c j ≠ none) ∧ (k < m → findR L c k = none) := by
  intro m
  induction m with
  | zero => exact ⟨0, Nat.le_refl _, fun j hj => by omega, fun h => by omega⟩
  | succ m ih =>
    obtain ⟨k, h1, h2, h3⟩ := ih
    rcases Nat.lt_or_ge k m with h | h
    · exact ⟨k, by omega, h2, fun _ => h3 h⟩
    · have hk : k = m := by omega
      subst hk
      cases q : findR L c (k : Int) with
      | none => exact ⟨k, by omega, h2, fun _ => q⟩
      | some i => exact ⟨k + 1, Nat.le_refl _, fun j hj => by
          by_cases e : j = k
          · subst e; rw [q]; simp
          · exact h2 j (by omega), fun h => by omega⟩
theorem LIs.openJ {n : Nat} {D : Nat → Nat → Int × Int × Int} {L : List OpenR} (h : LIs n D L) {c f : Nat} (hc : c < n) (hf : f < 16) : findR L c f = none ↔ (D c f).2.1 = 0 := by
  constructor
  · intro q
    by_cases e : (D c f).2.1 = 0
    · exact e
    · obtain ⟨k, x, h1, _⟩ := h.found hc hf e
      rw [q] at h1; cases h1
  · intro q
    refine h.lost (.inr (.inr ?_))
    simpa using q
/-- Add, on both sides. -/
theorem add_both (bt br bm n : Nat) (D : Nat → Nat → Int × Int × Int) (L : List OpenR) (c N F : Int) (hl : LIs n D L) (hn : LCnt n D L) (hlen : L.length ≤ 128) :
    ∃ (k e : Nat) (D' : Nat → Nat → Int × Int × Int) (L' : List OpenR), k ≤ 16 ∧ e ≤ 23 ∧ LIs n D' L' ∧ LCnt n D' L' ∧
      (∀ W, Tabs W bt br n D → Calls Try.prog 61 #[.pointer (some ⟨bt, 0, none⟩), .int .i64 c, .int .i64 N, .int .i64 F] W fun r W' => r = .returned (.tuple #[.int .i64 k, .int .i64 e]) ∧ Tabs W' bt br n D' ∧ Gr [br] W W') ∧
      (∀ W v, RTab W bm n L v → Calls Try.prog 62 #[.pointer (some ⟨bm, 0, none⟩), .int .i64 c, .int .i64 N, .int .i64 F] W fun r W' => ∃ v', r = .returned (.tuple #[.int .i64 k, .int .i64 e]) ∧ RTab W' bm n L' v' ∧ Gr (tabB bm v) W W') := by
  by_cases hb : (c < 0 ∨ n ≤ c) ∨ F < 1 ∨ 7 < F
  · refine ⟨0, 2, D, L, by omega, by omega, hl, hn, fun W h => ?_, fun W v h => ?_⟩
    · refine (add_arg bt br n c N F D W h hb).mono ?_
      rintro r W' ⟨rfl, rfl⟩
      exact ⟨rfl, h, Gr.refl _ _⟩
    · refine (radd_arg bm n L v c N F W h hb).mono ?_
      rintro r W' ⟨rfl, g⟩
      exact ⟨v, rfl, h.gr0 g, grT_of g⟩
  · obtain ⟨c, rfl⟩ := Int.eq_ofNat_of_zero_le (show 0 ≤ c by omega)
    have hcn : c < n := by omega
    obtain ⟨k, hk, hj, hfree⟩ := firstFreeR L (c : Int) 16
    rcases Nat.lt_or_ge k 16 with h16 | h16
    · have hD0 : (D c k).2.1 = 0 := (hl.openJ hcn h16).1 (hfree h16)
      have hDj : ∀ g, g < k → (D c g).2.1 ≠ 0 := fun g hg q => hj g hg ((hl.openJ hcn (by omega)).2 q)
      refine ⟨k, 0, updD D c k (N, F, 0), L ++ [⟨c, k, N, F, 0⟩], by omega, by omega, ?_, ?_, fun W h => ?_, fun W v h => ?_⟩
      · exact hl.add hcn h16 hD0 ⟨c, k, N, F, 0⟩ rfl rfl (by simp only; omega)
      · exact hn.add hcn h16 hD0 ⟨c, k, N, F, 0⟩ (by simp only; omega)
      · exact add_ok bt br n c k N F D W h hcn (by omega) (by omega) h16 hD0 hDj
      · refine (radd_in bm n L v c N F W h ⟨by omega, by omega⟩ ⟨by omega, by omega⟩ (by omega)).mono ?_
        rintro r W' (⟨q, rfl, g⟩ | ⟨i, v', q1, q2, q3, rfl, hr, g⟩)
        · exact absurd (hfree h16) (q k h16)
        · have hik : i = k := by
            rcases Nat.lt_trichotomy i k with z | z | z
            · exact absurd q2 (hj i z)
            · exact z
            · exact absurd (hfree h16) (q3 k z)
          subst hik
          exact ⟨v', rfl, hr, g⟩
    · have hk16 : k = 16 := by omega
      subst hk16
      have hDj : ∀ g, g < 16 → (D c g).2.1 ≠ 0 := fun g hg q => hj g hg ((hl.openJ hcn hg).2 q)
      refine ⟨0, 7, D, L, by omega, by omega, hl, hn, fun W h => ?_, fun W v h => ?_⟩
      · refine (add_full bt br n c N F D W h hcn (by omega) (by omega) hDj).mono ?_
        rintro r W' ⟨rfl, g⟩
        exact ⟨rfl, h.gr0 g, grT_of g⟩
      · refine (radd_in bm n L v c N F W h ⟨by omega, by omega⟩ ⟨by omega, by omega⟩ (by omega)).mono ?_
        rintro r W' (⟨q, rfl, g⟩ | ⟨i, v', q1, q2, q3, rfl, hr, g⟩)
        · exact ⟨v, rfl, h.gr0 g, grT_of g⟩
        · exact absurd q2 (hj i q1)
/-- Get and Find. -/
theorem get_both (bt br bm n : Nat) (D : Nat → Nat → Int × Int × Int) (L : List OpenR) (c f : Int) (hl : LIs n D L) (hlen : L.length ≤ 128) :
    (∃ e : Nat, e ≠ 0 ∧ e ≤ 23 ∧
      (∀ W, Tabs W bt br n D → Calls Try.prog 63 #[.pointer (some ⟨bt, 0, none⟩), .int .i64 c, .int .i64 f] W fun r W' => r = .returned (.tuple #[.agg #[.int .i64 0, .int .i64 0, .int .i64 0], .int .i64 e]) ∧ Gr [] W W') ∧
      (∀ W v, RTab W bm n L v → Calls Try.prog 64 #[.pointer (some ⟨bm, 0, none⟩), .int .i64 c, .int .i64 f] W fun r W' => r = .returned (.tuple #[.int .i64 0, .int .i64 e]) ∧ Gr [] W W')) ∨
    (∃ (k c' f' : Nat) (x : OpenR), c = c' ∧ f = f' ∧ c' < n ∧ f' < 16 ∧ (D c' f').2.1 ≠ 0 ∧ D c' f' = (x.n, x.g, x.a) ∧ L[k]? = some x ∧ x.c = c' ∧ x.f = f' ∧
      (∀ W, Tabs W bt br n D → Calls Try.prog 63 #[.pointer (some ⟨bt, 0, none⟩), .int .i64 c, .int .i64 f] W fun r W' => r = .returned (.tuple #[.agg #[.int .i64 x.n, .int .i64 x.g, .int .i64 x.a], .int .i64 0]) ∧ Gr [] W W') ∧
      (∀ W v, RTab W bm n L v → Calls Try.prog 64 #[.pointer (some ⟨bm, 0, none⟩), .int .i64 c, .int .i64 f] W fun r W' => r = .returned (.tuple #[.int .i64 k, .int .i64 0]) ∧ Gr [] W W')) := by
  by_cases hb : c < 0 ∨ n ≤ c
  · exact .inl ⟨2, by omega, by omega, fun W h => get_arg bt br n c f D W h hb, fun W v h => rfind_arg bm n L v c f W h hb⟩
  · obtain ⟨c, rfl⟩ := Int.eq_ofNat_of_zero_le (show 0 ≤ c by omega)
    have hcn : c < n := by omega
    by_cases ho : 0 ≤ f ∧ f < 16 ∧ (D c f.toNat).2.1 ≠ 0
    · obtain ⟨f, rfl⟩ := Int.eq_ofNat_of_zero_le ho.1
      have hf16 : f < 16 := by omega
      have hDf : (D c f).2.1 ≠ 0 := by simpa using ho.2.2
      obtain ⟨k, x, hk, hx, hxc, hxf, hD⟩ := hl.found hcn hf16 hDf
      refine .inr ⟨k, c, f, x, rfl, rfl, hcn, hf16, hDf, hD, hx, hxc, hxf, fun W h => ?_, fun W v h => rfind_some bm n k L v c f W h ⟨by omega, by omega⟩ (by omega) hk⟩
      have := get_ok bt br n c f D W h hcn hf16 hDf
      rw [hD] at this
      exact this
    · have hlost : f < 0 ∨ 16 ≤ f ∨ (D c f.toNat).2.1 = 0 := by
        by_cases h0 : f < 0
        · exact .inl h0
        · by_cases h1 : 16 ≤ f
          · exact .inr (.inl h1)
          · right; right
            by_cases h2 : (D c f.toNat).2.1 = 0
            · exact h2
            · exact absurd ⟨by omega, by omega, h2⟩ ho
      exact .inl ⟨19, by omega, by omega, fun W h => get_bad bt br n c f D W h hcn (by
        rcases hlost with q | q | q
        · exact .inl (.inl q)
        · exact .inl (.inr q)
        · by_cases h0 : f < 0
          · exact .inl (.inl h0)
          · by_cases h1 : 16 ≤ f
            · exact .inl (.inr h1)
            · exact .inr ⟨by omega, by omega, q⟩), fun W v h => rfind_none bm n L v c f W h ⟨by omega, by omega⟩ (by omega) (hl.lost hlost)⟩
/-- Seek, on both sides. -/
theorem seek_both (bt br bm n : Nat) (D : Nat → Nat → Int × Int × Int) (L : List OpenR) (c f a : Int) (hl : LIs n D L) (hn : LCnt n D L) (hlen : L.length ≤ 128) :
    ∃ (e : Nat) (D' : Nat → Nat → Int × Int × Int) (L' : List OpenR), e ≤ 23 ∧ LIs n D' L' ∧ LCnt n D' L' ∧
      (∀ W, Tabs W bt br n D → Calls Try.prog 65 #[.pointer (some ⟨bt, 0, none⟩), .int .i64 c, .int .i64 f, .int .i64 a] W fun r W' => r = .returned (.int .i64 e) ∧ Tabs W' bt br n D' ∧ Gr [br] W W') ∧
      (∀ W v, RTab W bm n L v → Calls Try.prog 66 #[.pointer (some ⟨bm, 0, none⟩), .int .i64 c, .int .i64 f, .int .i64 a] W fun r W' => r = .returned (.int .i64 e) ∧ RTab W' bm n L' v ∧ Gr (tabB bm v) W W') := by
  rcases get_both bt br bm n D L c f hl hlen with ⟨e, he, he2, HG, HF⟩ | ⟨k, c', f', x, rfl, rfl, hcn, hf16, hDf, hD, hx, hxc, hxf, HG, HF⟩
  · refine ⟨e, D, L, he2, hl, hn, fun W h => ?_, fun W v h => ?_⟩
    · refine (seek_err _ _ _ (.int .i64 a) e W (by omega) (HG W h)).mono ?_
      rintro r W' ⟨rfl, g⟩
      exact ⟨rfl, h.gr0 g, grT_of g⟩
    · refine (rseek_err bm e c f a W he (HF W v h)).mono ?_
      rintro r W' ⟨rfl, g⟩
      exact ⟨rfl, h.gr0 g, grT_of g⟩
  · by_cases ha : a < 0
    · refine ⟨23, D, L, by omega, hl, hn, fun W h => ?_, fun W v h => ?_⟩
      · refine (seek_neg bt br n c' f' a D W h hcn hf16 hDf ha).mono ?_
        rintro r W' ⟨rfl, g⟩
        exact ⟨rfl, h.gr0 g, grT_of g⟩
      · refine (rseek_neg bm k c' f' a W ha (HF W v h)).mono ?_
        rintro r W' ⟨rfl, g⟩
        exact ⟨rfl, h.gr0 g, grT_of g⟩
    · exact ⟨0, updD D c' f' ((D c' f').1, (D c' f').2.1, a), L.set k { x with a := a }, by omega, hl.seek hx hxc hxf a, hn.seek hcn hf16 hx a, fun W h => seek_ok bt br n c' f' a D W h hcn hf16 hDf (by omega), fun W v h => rseek_ok bm n k L v x c' f' a W h hx (by omega) (by omega) (HF W v h)⟩
/-- Close, on both sides. -/
theorem close_both (bt br bm n : Nat) (D : Nat → Nat → Int × Int × Int) (L : List OpenR) (c f : Int) (hl : LIs n D L) (hn : LCnt n D L) (hlen : L.length ≤ 128) :
    ∃ (m : Int) (e : Nat) (D' : Nat → Nat → Int × Int × Int) (L' : List OpenR), e ≤ 23 ∧ LIs n D' L' ∧ LCnt n D' L' ∧
      (∀ W, Tabs W bt br n D → Calls Try.prog 67 #[.pointer (some ⟨bt, 0, none⟩), .int .i64 c, .int .i64 f] W fun r W' => r = .returned (.tuple #[.int .i64 m, .int .i64 e]) ∧ Tabs W' bt br n D' ∧ Gr [br] W W') ∧
      (∀ W v, RTab W bm n L v → Calls Try.prog 68 #[.pointer (some ⟨bm, 0, none⟩), .int .i64 c, .int .i64 f] W fun r W' => ∃ v', r = .returned (.tuple #[.int .i64 m, .int .i64 e]) ∧ RTab W' bm n L' v' ∧ Gr (tabB bm v) W W') := by
  rcases get_both bt br bm n D L c f hl hlen with ⟨e, he, he2, HG, HF⟩ | ⟨k, c', f', x, rfl, rfl, hcn, hf16, hDf, hD, hx, hxc, hxf, HG, HF⟩
  · refine ⟨0, e, D, L, he2, hl, hn, fun W h => ?_, fun W v h => ?_⟩
    · refine (close_err _ _ _ e W (by omega) (HG W h)).mono ?_
      rintro r W' ⟨rfl, g⟩
      exact ⟨rfl, h.gr0 g, grT_of g⟩
    · refine (rclose_err bm e c f W he (HF W v h)).mono ?_
      rintro r W' ⟨rfl, g⟩
      exact ⟨v, rfl, h.gr0 g, grT_of g⟩
  · refine ⟨x.n, 0, updD D c' f' (0, 0, 0), L.eraseIdx k, by omega, hl.close hx hxc hxf, hn.close hl hcn hf16 hx hxc hxf, fun W h => ?_, fun W v h => ?_⟩
    · have := close_ok bt br n c' f' D W h hcn hf16 hDf
      rw [hD] at this
      exact this
    · refine (rclose_ok bm n k L v x c' f' W h hx (by omega) (HF W v h)).mono ?_
      rintro r W' ⟨rfl, v', h1, h2⟩
      exact ⟨v', rfl, h1, h2⟩

theorem cntL_step (p : Int → Bool) {L : List OpenR} {k : Nat} {x : OpenR} (h : L[k]? = some x) : cntL p (L.take (k + 1)) = cntL p (L.take k) + if p x.n = true then 1 else 0 := by
  obtain ⟨h1, h2⟩ := List.getElem?_eq_some_iff.1 h
  rw [List.take_succ_eq_append_getElem h1, h2]
  unfold cntL
  rw [List.filter_append, List.length_append]
  by_cases q : p x.n = true <;> simp [q]
theorem cntL_take_le (p : Int → Bool) (L : List OpenR) (k : Nat) : cntL p (L.take k) ≤ L.length := by
  unfold cntL
  have := List.length_filter_le (fun x => p x.n) (L.take k)
  rw [List.length_take] at this
  omega
/-- Between two acts. -/
structure DSt (w W : World) (bt br bm n : Nat) (D : Nat → Nat → Int × Int × Int) (L : List OpenR) (v : Value) : Prop where
  p : DPl W bt br bm n D L v
  gr : Gr [] w W
  lo1 : w.heap.size ≤ br
  lo2 : w.heap.size ≤ bm
  ap1 : bt < bm
  ap2 : br < bm
theorem DSt.gr0 {w W W' : World} {bt br bm n : Nat} {D : Nat → Nat → Int × Int × Int} {L : List OpenR} {v : Value} (h : DSt w W bt br bm n D L v) (g : Gr [] W W') : DSt w W' bt br bm n D L v := ⟨h.p.gr0 g, h.gr.next0 g, h.lo1, h.lo2, h.ap1, h.ap2⟩
theorem RTab.grP {W W' : World} {br bm n : Nat} {L : List OpenR} {v : Value} (h : RTab W bm n L v) (g : Gr [br] W W') (ap : br < bm) : RTab W' bm n L v := h.gr g (by simp; omega) (fun b hb => by have := (h.row.lt b hb).1; simp; omega)
theorem Tabs.grR {W W' W0 : World} {bt br bm n : Nat} {D : Nat → Nat → Int × Int × Int} {L : List OpenR} {v : Value} (h : Tabs W bt br n D) (hr : RTab W0 bm n L v) (g : Gr (tabB bm v) W W') (a1 : bt < bm) (a2 : br < bm) : Tabs W' bt br n D :=
  h.gr g (fun e => by have := (hr.lt _ e).1; omega) (fun e => by have := (hr.lt _ e).1; omega)
/-- Both sides have done an act. -/
theorem DSt.both {w W W1 W2 : World} {bt br bm n : Nat} {D D' : Nat → Nat → Int × Int × Int} {L L' : List OpenR} {v v' : Value} (h : DSt w W bt br bm n D L v) (t1 : Tabs W1 bt br n D') (g1 : Gr [br] W W1) (hr1 : RTab W1 bm n L v) (r2 : RTab W2 bm n L' v') (g2 : Gr (tabB bm v) W1 W2) (hl : LIs n D' L') (hc : LCnt n D' L') : DSt w W2 bt br bm n D' L' v' :=
  ⟨⟨t1.grR hr1 g2 h.ap1 h.ap2, r2, hl, hc⟩, (h.gr.nextN g1 (fun x hx => by simp at hx; subst hx; exact .inr h.lo1)).nextN g2 (fun x hx => .inr (by have := (hr1.lt x hx).1; have := h.lo2; omega)), h.lo1, h.lo2, h.ap1, h.ap2⟩
/-- The same, the other way about. -/
theorem DSt.both2 {w W W1 W2 : World} {bt br bm n : Nat} {D D' : Nat → Nat → Int × Int × Int} {L L' : List OpenR} {v v' : Value} (h : DSt w W bt br bm n D L v) (r1 : RTab W1 bm n L' v') (g1 : Gr (tabB bm v) W W1) (t2 : Tabs W2 bt br n D') (g2 : Gr [br] W1 W2) (hl : LIs n D' L') (hc : LCnt n D' L') : DSt w W2 bt br bm n D' L' v' :=
  ⟨⟨t2, r1.grP g2 h.ap2, hl, hc⟩, (h.gr.nextN g1 (fun x hx => .inr (by have := (h.p.rt.lt x hx).1; have := h.lo2; omega))).nextN g2 (fun x hx => by simp at hx; subst hx; exact .inr h.lo1), h.lo1, h.lo2, h.ap1, h.ap2⟩
theorem DSt.at {w W W0 W5 : World} {bt br bm n : Nat} {D : Nat → Nat → Int × Int × Int} {L : List OpenR} {v : Value} {bs : List Nat} (h : DSt w W bt br bm n D L v) (g : Gr [] W W0) (_g : Gr bs W0 W5) : DSt w W0 bt br bm n D L v := h.gr0 g
/-- The act's box. -/
structure DAct (W : World) (b9 : Nat) (d c f a : Int) : Prop where
  x : Holds W b9 #[.int .i64 d, .int .i64 c, .int .i64 f, .int .i64 a] 116
theorem DAct.gr {W W' : World} {b9 : Nat} {d c f a : Int} {bs : List Nat} (h : DAct W b9 d c f a) (g : Gr bs W W') (hn : b9 ∉ bs) : DAct W' b9 d c f a := ⟨h.x.gr g hn⟩
theorem DAct.gr0 {W W' : World} {b9 : Nat} {d c f a : Int} (h : DAct W b9 d c f a) (g : Gr [] W W') : DAct W' b9 d c f a := h.gr g (by simp)

end Go.Proofs.Ytpkhfdcokcchdaa
