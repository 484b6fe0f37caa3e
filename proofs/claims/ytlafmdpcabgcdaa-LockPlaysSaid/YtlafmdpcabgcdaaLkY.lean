/-
  Layer 24: what the law looks at first: wakes.
-/
import Derived.Test.YtlafmdpcabgcdaaLkX
namespace Go.Proofs.Ytlafmdpcabgcdaa
open Go.RowKit

theorem slz_row {w : World} {b : Nat} {l : List Int} (h : Holds w b (zv l).toArray 3) (hl : l.length ≤ 1000) : SlZ w (.slice (some ⟨b, 0, none⟩) l.length l.length) l := by
  refine ⟨_, l.length, rfl, fun i x hi => ⟨b, 0, rfl, h.lt, ?_⟩, Nat.le_refl _, by unfold maxLen; omega, fun e => by cases e⟩
  rw [Nat.zero_add, h.cell]
  simp [zv, hi]
/-- Ask, where the list is known. -/
theorem ask_as {a : LkA} {n m : Nat} {vs : Nat → Value} {S : LkS} {c : Nat} {v : Value} {xs l0 : List Int} {w : World} (h : LkIs w a n m vs S) (hc : c < n) (hw : WfH S) (hm : m ≤ 100000) (hv : SlZ w v xs) (hx6 : xs.length ≤ 1000)
    (hS : S.W c = []) (hyes : mayH S c xs) (hwx : ∀ x ∈ xs, WfZ x) (hl0 : Rise l0) (hm0 : ∀ z, z ∈ l0 ↔ z ∈ xs) :
    Calls Try.prog 8 #[.pointer (some ⟨a.b, 0, none⟩), .int .i64 c, v] w fun e w' => e = .returned (.int .i64 0) ∧ Gr a.all w w' ∧ ∃ vs', LkIs w' a n m vs' (askL S c l0) ∧ NwV w w' vs vs' := by
  refine (ask_yes a n m vs S c v xs w h hc hw hm hv hx6 hS hyes hwx).mono ?_
  rintro e w' ⟨rfl, g, l, vs', hr, hl, h', hn⟩
  obtain rfl : l = l0 := hr.uniq hl0 fun z => (hl z).trans (hm0 z).symm
  exact ⟨rfl, g, vs', h', hn⟩
theorem waits_at (a : LkA) (n m : Nat) (vs : Nat → Value) (S : LkS) (c : Nat) (z : Int) (w : World) (h : LkIs w a n m vs S) (hc : c < n) (hz : waitZ S c = z) : Calls Try.prog 17 #[.pointer (some ⟨a.b, 0, none⟩), .int .i64 c] w fun e w' => e = .returned (.int .i64 z) ∧ Gr [] w w' := by
  subst hz
  cases e : S.W c with
  | nil =>
    have hz : waitZ S c = -1 := by unfold waitZ waitL; rw [e]
    rw [hz]
    exact (waits_none a n m vs S c w h hc e).mono fun _ _ ⟨h1, h2⟩ => ⟨h1, by rw [h2]; exact Gr.refl _ _⟩
  | cons x r =>
    have hz : waitZ S c = match S.H x with | none => -1 | some d => (d : Int) := by unfold waitZ waitL; rw [e]; simp only; cases S.H x <;> rfl
    rw [hz]
    refine (waits_some a n m vs S c x r w h hc e).mono fun _ _ ⟨h1, h2⟩ => ⟨?_, h2⟩
    rw [h1]
    cases S.H x <;> rfl
def wk1 : LkS := ⟨fun _ => none, setW (fun _ => []) 0 [1, 2]⟩
def wk2 : LkS := ⟨fun _ => none, setW (setW (fun _ => []) 0 [1, 2]) 1 [1]⟩
def wk3 : LkS := ⟨setH (fun _ => none) 1 0, setW (setW (setW (fun _ => []) 0 [1, 2]) 1 [1]) 0 [2]⟩
def wk4 : LkS := ⟨setH (setH (fun _ => none) 1 0) 2 0, setW (setW (setW (setW (fun _ => []) 0 [1, 2]) 1 [1]) 0 [2]) 0 []⟩
theorem wk1_eq : askL noneS 0 [1, 2] = wk1 := rfl
theorem wk2_eq : askL wk1 1 [1] = wk2 := rfl
theorem wk3_eq : stepL wk2 0 = wk3 := rfl
theorem wk4_eq : stepL wk3 0 = wk4 := rfl
theorem wk4_has (z : Int) : wk4.H z = some 0 ↔ z ∈ [1, 2] := by
  simp only [wk4, setH]
  by_cases h2 : z = 2
  · subst h2; simp
  · by_cases h1 : z = 1
    · subst h1; simp
    · simp [h1, h2]
theorem wk_wf (S : LkS) (h : ∀ x c, S.H x = some c → x = 1 ∨ x = 2) : WfH S := fun x c hx => by
  rcases h x c hx with rfl | rfl <;> exact wfZ (by omega) (by omega)
theorem wk4_wf : WfH wk4 := wk_wf _ fun x c hx => by
  simp only [wk4, setH] at hx
  by_cases h2 : x = 2
  · exact .inr h2
  · by_cases h1 : x = 1
    · exact .inl h1
    · simp [h1, h2] at hx
theorem wkn_wf (S : LkS) (h : ∀ x, S.H x = none) : WfH S := fun x c hx => by rw [h x] at hx; cases hx
theorem wf_small {l : List Int} (h : ∀ x ∈ l, 0 ≤ x ∧ x ≤ 10) : ∀ x ∈ l, WfZ x := fun x hx => wfZ (by have := h x hx; omega) (by have := h x hx; omega)
set_option maxRecDepth 100000 in
set_option maxHeartbeats 8000000 in
theorem wakes24 (w : World) : Calls Try.prog 7 #[] w fun e w' => e = .returned (.bool true) ∧ Gr [] w w' := by
  go_enter Try.func7, Try.ntmps7
  go_wp2_with fail
  go_at_call 6
  refine (new_ok 2 w (by omega) (by omega)).mono ?_
  rintro e w1 ⟨a, rfl, h1, g1, hb1⟩
  have H1 := Lib.hid (And.intro h1 (And.intro g1 hb1))
  clear h1 g1 hb1
  go_wp2_with fail
  go_at_call 8
  have r1 := Holds.new w1 #[.int .i64 2, .int .i64 1, .int .i64 2] 3
  refine (ask_as (l0 := [1, 2]) (xs := [2, 1, 2]) (H1.out.1.gr0 ((Gr.refl [] w1).alloc _)) (c := 0) (by omega) (wkn_wf _ fun _ => rfl) (by omega) (slz_row (l := [2, 1, 2]) r1 (by simp)) (by simp) rfl (fun x _ y hy => by cases hy) (wf_small (by simp)) (by simp [Rise]) (fun z => by simp; omega)).mono ?_
  rintro e w2 ⟨rfl, g2, vs2, h2, -⟩
  rw [wk1_eq] at h2
  have H2 := Lib.hid (And.intro h2 ((H1.out.2.1.alloc _).nextN g2 (fun b hb => .inr (H1.out.2.2 b hb))))
  clear h2 g2 r1
  go_wp2_with fail
  go_at_call 8
  have r2 := Holds.new w2 #[.int .i64 1] 3
  refine (ask_as (l0 := [1]) (xs := [1]) (H2.out.1.gr0 ((Gr.refl [] w2).alloc _)) (c := 1) (by omega) (wkn_wf _ fun _ => rfl) (by omega) (slz_row (l := [1]) r2 (by simp)) (by simp) rfl (fun x _ y hy => by cases hy) (wf_small (by simp)) (by simp [Rise]) (fun z => by simp)).mono ?_
  rintro e w3 ⟨rfl, g3, vs3, h3, -⟩
  rw [wk2_eq] at h3
  have H3 := Lib.hid (And.intro h3 ((H2.out.2.alloc _).nextN g3 (fun b hb => .inr (H1.out.2.2 b hb))))
  clear h3 g3 r2
  go_wp2_with fail
  go_at_call 12
  refine (step_take a 2 0 vs3 wk2 0 1 [2] w3 H3.out.1 (by omega) rfl rfl (by unfold maxLen; omega)).mono ?_
  rintro e w4 ⟨rfl, g4, vs4, h4, -⟩
  rw [wk3_eq] at h4
  have H4 := Lib.hid (And.intro h4 (H3.out.2.nextN g4 (fun b hb => .inr (H1.out.2.2 b hb))))
  clear h4 g4
  go_wp2_with fail
  go_at_call 12
  refine (step_held a 2 _ vs4 wk3 1 1 [] 0 w4 H4.out.1 (by omega) rfl rfl).mono ?_
  rintro e w5 ⟨rfl, g5⟩
  have H5 := Lib.hid (And.intro (H4.out.1.gr0 g5) (H4.out.2.next0 g5))
  clear g5
  go_wp2_with fail
  go_at_call 12
  refine (step_take a 2 _ vs4 wk3 0 2 [] w5 H5.out.1 (by omega) rfl rfl (by unfold maxLen; omega)).mono ?_
  rintro e w6 ⟨rfl, g6, vs6, h6, -⟩
  rw [wk4_eq] at h6
  have H6 := Lib.hid (And.intro h6 (H5.out.2.nextN g6 (fun b hb => .inr (H1.out.2.2 b hb))))
  clear h6 g6
  go_wp2_with fail
  go_at_call 17
  refine (waits_at a 2 _ vs6 wk4 1 0 w6 H6.out.1 (by omega) rfl).mono ?_
  rintro e w7 ⟨rfl, g7⟩
  have H7 := Lib.hid (And.intro (H6.out.1.gr0 g7) (H6.out.2.next0 g7))
  clear g7
  go_wp2_with fail
  go_at_call 17
  refine (waits_none a 2 _ vs6 wk4 0 w7 H7.out.1 (by omega) rfl).mono ?_
  rintro e w8 ⟨rfl, hw8⟩
  rw [hw8]
  go_wp2_with fail
  go_at_call 15
  refine (has_at a 2 _ vs6 wk4 0 w7 H7.out.1 (by omega) wk4_wf (by omega)).mono ?_
  rintro e w9 ⟨v9, l9, rfl, hr9, hm9, hs9, hg9, -⟩
  obtain rfl : l9 = [1, 2] := hr9.uniq (by simp [Rise]) fun z => (hm9 z).trans (wk4_has z)
  obtain ⟨ao9, cp9, rfl⟩ := slz_any hs9
  have HG9 := Lib.hid (H7.out.2.next0 hg9)
  clear hr9 hm9 hs9 hg9
  go_wp2_with fail
  go_ret
  exact ⟨rfl, HG9.out⟩
end Go.Proofs.Ytlafmdpcabgcdaa
