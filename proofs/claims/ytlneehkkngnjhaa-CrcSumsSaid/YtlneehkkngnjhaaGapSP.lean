/-
  The reference's list of a ring's slots; what a slot holds, and back.
-/
import Derived.Test.YtlneehkkngnjhaaGapTP
namespace Go.Proofs.Ytlneehkkngnjhaa
open Go.RowKit

theorem infoInt : (Try.prog.info? 3).map (fun i => (i.zero, i.size, i.bytes)) = some (some (.int .i64 0), 1, 8) := by kernel_rfl
theorem slot_occ (s g n p : Int) (h : rightS s g n) (h0 : 0 ≤ p) (h1 : p ≤ n) (h2 : p ≠ g) : 0 ≤ lineI s g n p ∧ lineI s g n p < n ∧ slotI s g n (lineI s g n p) = p := by
  obtain ⟨a1, a2, a3, a4, a5, a6⟩ := h
  have key : ∀ q : Int, 0 ≤ q → q < n → ((q - s + n) % n + s) % n = q := by
    intro q hq hq2
    rw [Int.emod_add_emod, show q - s + n + s = q + n by omega, Int.add_emod_right]
    exact Int.emod_eq_of_lt hq hq2
  unfold slotI lineI
  refine ⟨Int.emod_nonneg _ (by omega), Int.emod_lt_of_pos _ (by omega), ?_⟩
  by_cases c : g < p
  · rw [if_pos c, key (p - 1) (by omega) (by omega), if_neg (by omega)]
    omega
  · rw [if_neg c, key p (by omega) (by omega), if_pos (by omega)]
theorem occ_b (s g n p : Int) (h : rightS s g n) (h0 : 0 ≤ p) (h1 : p ≤ n) : -1 ≤ occ s g n p ∧ occ s g n p < n := by
  unfold occ
  have := h.1
  by_cases c : p = g
  · rw [if_pos c]; omega
  · rw [if_neg c]
    have := slot_occ s g n p h h0 h1 c
    omega
/-- A row into which the lines below i have been put. -/
def PutIs (xs : List Value) (s g : Int) (n : Nat) (i : Nat) : Prop := xs.length = n + 1 ∧ ∀ p : Nat, p ≤ n → occ s g n p < i → xs[p]? = some (.int .i64 (occ s g n p))
theorem PutIs.done {xs : List Value} {s g : Int} {n : Nat} (h : PutIs xs s g n n) (hr : rightS s g n) : RowIs xs s g n :=
  ⟨h.1, fun p hp => h.2 p hp (occ_b s g n p hr (by omega) (by omega)).2⟩
theorem PutIs.step {xs : List Value} {s g : Int} {n i p : Nat} (h : PutIs xs s g n i) (hr : rightS s g n) (hi : i < n) (hp : slotI s g n i = p) : PutIs (xs.set p (.int .i64 (i : Int))) s g n (i + 1) := by
  have hs := slot_ok s g n i hr (by omega) (by omega)
  rw [hp] at hs
  refine ⟨by simpa using h.1, fun q hq ho => ?_⟩
  have hl := h.1
  by_cases e : q = p
  · subst e
    rw [List.getElem?_set_self (by omega), hs.2.2]
  · rw [List.getElem?_set_ne (fun e' => e e'.symm)]
    refine h.2 q hq ?_
    by_cases c : (q : Int) = g
    · unfold occ; rw [if_pos c]; omega
    · have ho2 := slot_occ s g n q hr (by omega) (by omega) c
      have : occ s g n q ≠ i := by
        intro e2
        have e3 : occ s g n q = lineI s g n q := by unfold occ; rw [if_neg c]
        rw [e3] at e2
        rw [e2, hp] at ho2
        exact e (by omega)
      omega

theorem made_facts {w wm : World} {e : TypeId} {N g : Nat} {v u : Value} {xs : List Value} (hown : wm.ownsRow w.heap.size e 1 v N xs) (hv : v = .slice (some ⟨w.heap.size, 0, none⟩) N N) (hgrow : w.grownBy wm none) (hg : g < N) :
    ∃ (x0 : Value) (ys : List Value), ys.length = N ∧ ys[g]? = some u ∧ wm.cell? ⟨w.heap.size, g, none⟩ = some x0 ∧ wm.frozen? ⟨w.heap.size, g, none⟩ = false ∧
      (wm.setCell ⟨w.heap.size, g, none⟩ u).ownsRow w.heap.size e 1 v N ys ∧ Below w.heap.size w (wm.setCell ⟨w.heap.size, g, none⟩ u) := by
  subst hv
  have hl : xs.length = N := by simpa using hown.1
  have hb2 : Below w.heap.size w wm := (Below.refl _ _).grown hgrow (by simp) (fun k hk => by cases hk)
  have hc := hown.cellAt g (by omega)
  rw [List.getElem?_eq_getElem (by omega)] at hc
  exact ⟨_, xs.set g u, by simpa using hl, by simp [hl, hg], by simpa using hc, by simpa using hown.frozenAt g, by simpa using (hown.stored g u).1, hb2.setCell (p := ⟨w.heap.size, g, none⟩) (by simp) u⟩

set_option maxHeartbeats 1000000 in
theorem rslots (s g n : Nat) (w : World) (h : rightS s g n) :
    Calls Try.prog 35 #[.int .i64 s, .int .i64 g, .int .i64 n] w fun e w' => ∃ xs : List Value, e = .returned (.slice (some ⟨w.heap.size, 0, none⟩) (n + 1) (n + 1)) ∧
      w'.ownsRow w.heap.size 3 1 (.slice (some ⟨w.heap.size, 0, none⟩) (n + 1) (n + 1)) (n + 1) xs ∧ RowIs xs s g n ∧ Below w.heap.size w w' := by
  obtain ⟨i0, hi, hz0, hz1, hz2⟩ := info_parts infoInt
  have H := Lib.hid h
  obtain ⟨a1, a2, a3, a4, a5, a6⟩ := h
  obtain ⟨N1, hN1⟩ : ∃ N1 : Nat, N1 = n + 1 := ⟨_, rfl⟩
  have eN1 : (n : Int) + 1 = (N1 : Int) := by omega
  rw [← hN1]
  have MF := Lib.hid (fun (wm : World) (hown : wm.ownsRow w.heap.size 3 1 (.slice (some ⟨w.heap.size, 0, none⟩) N1 N1) N1 (madeCells (Value.cells (.int .i64 0)) (N1 * 1)).toList) (hgrow : w.grownBy wm none) => made_facts (g := g) (u := .int .i64 (-1)) hown rfl hgrow (by omega))
  have HN1 := Lib.hid hN1
  clear hN1
  go_enter Try.func35, Try.ntmps35
  go_wp2_with (refine wpList_make_full _ rfl _ _ 23 rfl w.heap.size 3 i0 (.int .i64 0) 1 Try.underlying23 hi hz0 hz1 .i64 .i64 _ _ N1 rfl rfl rfl rfl (by rw [hz2]; omega) (by unfold maxLen; omega) (by simp) ?_; intro wm hown hgrow; obtain ⟨x0, ys, hl0, hg0, hc0, hf0, ho1, hb1⟩ := MF.out wm hown hgrow; clear hown hgrow)
  have hp0 : PutIs ys s g n 0 := by
    refine ⟨by rw [hl0]; exact HN1.out, fun p hp ho => ?_⟩
    have hb := occ_b s g n p H.out (by omega) (by omega)
    by_cases c : (p : Int) = g
    · obtain rfl : p = g := by omega
      rw [hg0]; unfold occ; rw [if_pos rfl]
    · have := slot_occ s g n p H.out (by omega) (by omega) c
      unfold occ at ho
      rw [if_neg c] at ho
      omega
  have hsz := hb1.size
  clear MF hc0 hf0 hg0 hl0
  generalize wm.setCell ⟨w.heap.size, g, none⟩ (.int .i64 (-1)) = wv at *
  go_loopw [8] (fun i wr => ∃ (k : Nat) (xs : List Value), k ≤ n ∧ i = .int .i64 k ∧ wr.ownsRow w.heap.size 3 1 (.slice (some ⟨w.heap.size, 0, none⟩) N1 N1) N1 xs ∧ PutIs xs s g n k ∧ Below w.heap.size w wr) (fun i _ => n - (intOf i).toNat)
  case atStart => exact ⟨0, ys, by omega, rfl, ho1, hp0, hb1⟩
  case round =>
    clear ho1 hp0 hb1
    obtain ⟨k, xs, hk, rfl, hown, hput, B2⟩ := hrel
    have hl : xs.length = n + 1 := hput.1
    by_cases hlt : k < n
    · have hsl := slot_ok s g n k H.out (by omega) (by omega)
      obtain ⟨p, hp⟩ := Int.eq_ofNat_of_zero_le hsl.1
      have hpn : p < N1 := by have := hsl.2.1; have := HN1.out; omega
      have hst := hown.stored p (.int .i64 (k : Int))
      have RR := Lib.hid (And.intro hst.1 (And.intro (hput.step H.out (by omega) hp) (B2.setCell (p := ⟨w.heap.size, p, none⟩) (by simp) (.int .i64 (k : Int)))))
      have hc := hown.cellAt p (by have := HN1.out; omega)
      rw [List.getElem?_eq_getElem (by have := HN1.out; omega)] at hc
      have hf := hown.frozenAt p
      have q1 := Int.emod_nonneg ((k : Int) + s) (show (n : Int) ≠ 0 by omega)
      have q2 := Int.emod_lt_of_pos ((k : Int) + s) (show 0 < (n : Int) by omega)
      obtain ⟨q, hq⟩ := Int.eq_ofNat_of_zero_le q1
      generalize xs[p] = u at *
      clear hst hsl hput hown B2 hl
      unfold slotI at hp
      rw [hq] at hp q2
      by_cases c : (q : Int) < g
      · rw [if_pos c] at hp
        obtain rfl : q = p := by omega
        have hd : decide ((g : Int) ≤ (q : Int)) = false := by simp; omega
        clear hp
        go_wp2
        go_roundw
        case rel => exact ⟨k + 1, _, by omega, by go_num, RR.out.1, RR.out.2.1, RR.out.2.2⟩
        case measure => simp [intOf]; omega
      · rw [if_neg c] at hp
        have hd : decide ((g : Int) ≤ (q : Int)) = true := by simp; omega
        go_wp2
        go_roundw
        case rel => exact ⟨k + 1, _, by omega, by go_num, RR.out.1, RR.out.2.1, RR.out.2.2⟩
        case measure => simp [intOf]; omega
    · obtain ⟨n', hn'⟩ : ∃ n', n' = n := ⟨_, rfl⟩
      have hkn : k = n := by omega
      have RR := Lib.hid (And.intro hown (And.intro (show PutIs xs s g n n by rw [← hkn]; rwa [hkn] at hput ⊢) B2))
      go_wp2
      go_ret
      exact ⟨xs, rfl, RR.out.1, RR.out.2.1.done H.out, RR.out.2.2⟩

end Go.Proofs.Ytlneehkkngnjhaa
