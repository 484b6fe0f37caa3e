/-
  Layer 24: Step that takes a lock.
-/
import Derived.Test.YtlafmdpcabgcdaaLkE
namespace Go.Proofs.Ytlafmdpcabgcdaa
open Go.RowKit

theorem row_set (vs : Nat → Value) (n c : Nat) (V : Value) : ((Array.range n).map vs).setIfInBounds c V = (Array.range n).map (fun d => if d = c then V else vs d) := by
  apply Array.ext
  · simp
  · intro j h1 h2
    have hj : j < n := by simpa using h2
    rw [Array.getElem_setIfInBounds (by simpa using hj)]
    by_cases e : c = j
    · subst e; simp
    · rw [if_neg e]
      have e2 : ¬ j = c := fun q => e q.symm
      simp [e2]
theorem take_is {a : LkA} {n m : Nat} {vs : Nat → Value} {S : LkS} {c : Nat} {x : Int} {r : List Int} {w w3 : World} {V : Value} (h : LkIs w a n m vs S) (hc : c < n) (hS : S.W c = x :: r) (hd : S.H x = none)
    (HM3 : MapZ clE 3 w3 a.bm (m + 1) (updZ S.H x (some c))) (g3 : Gr [a.bm] w w3) (H3 : Holds w3 a.b #[.map (some a.bm), .slice (some ⟨a.bw, 0, none⟩) n n] 55) (R3 : Holds w3 a.bw ((Array.range n).map vs) 32) (hV : LkV w a V r) (hVb : ∀ q, V.ownBlock = some q → (vs c).ownBlock = some q) :
    Gr a.all w (w3.setCell ⟨a.bw, c, none⟩ V).drew ∧ ∃ vs', LkIs (w3.setCell ⟨a.bw, c, none⟩ V).drew a n (m + 1) vs' (stepL S c) ∧ NwV w (w3.setCell ⟨a.bw, c, none⟩ V).drew vs vs' := by
  have hnd := h.nd
  simp only [LkA.all, List.nodup_cons, List.mem_cons, List.not_mem_nil, or_false, not_or, List.nodup_nil, and_true, not_false_eq_true] at hnd
  have gs : Gr [a.bw] w3 (w3.setCell ⟨a.bw, c, none⟩ V).drew := ((Gr.refl [a.bw] w3).setCell (p := ⟨a.bw, c, none⟩) (.inl (by simp)) V).drew
  have gall : Gr a.all w (w3.setCell ⟨a.bw, c, none⟩ V).drew := (g3.mono (fun b hb => by simp at hb; simp [LkA.all, hb])).trans (gs.mono (fun b hb => by simp at hb; simp [LkA.all, hb]))
  have hst : stepL S c = ⟨setH S.H x c, setW S.W c r⟩ := by unfold stepL; rw [hS]; simp [hd]
  have hok := h.ok.step hc
  refine ⟨gall, fun d => if d = c then V else vs d, ?_⟩
  rw [hst] at hok ⊢
  refine ⟨⟨H3.gr gs (by simp; exact hnd.1.2), HM3.gr gs (by simp; exact hnd.2), ?_, fun d hdn => ?_, h.nd, hok, h.hi, fun d y hy => ?_⟩, fun d q hq => ?_⟩
  · have := R3.set c V
    rw [row_set] at this
    exact this
  · by_cases e : d = c
    · subst e
      simp only [if_true, setW]
      exact hV.gr gall (fun b hb => .inl hb)
    · simp only [if_neg e, setW]
      exact (h.each d hdn).gr gall (fun b hb => .inl hb)
  · simp only [setW] at hy
    split at hy
    · exact h.wf c y (by rw [hS]; simp [hy])
    · exact h.wf d y hy
  · simp only at hq
    split at hq
    · rename_i e; subst e; exact .inl (hVb q hq)
    · exact .inl hq

set_option maxRecDepth 100000 in
set_option maxHeartbeats 8000000 in
theorem step_take (a : LkA) (n m : Nat) (vs : Nat → Value) (S : LkS) (c : Nat) (x : Int) (r : List Int) (w : World) (h : LkIs w a n m vs S) (hc : c < n) (hS : S.W c = x :: r) (hd : S.H x = none) (hm : m < maxLen) : Calls Try.prog 12 #[.pointer (some ⟨a.b, 0, none⟩), .int .i64 c] w fun e w' => e = .returned (.tuple #[.bool (decide (r = [])), .int .i64 0]) ∧ Gr a.all w w' ∧ ∃ vs', LkIs w' a n (m + 1) vs' (stepL S c) ∧ NwV w w' vs vs' := by
  have HC := Lib.hid (check_at a n m vs S c w h)
  have hk : chkE n c = 0 := by unfold chkE; rw [if_pos (by omega)]
  rw [hk] at HC
  have c1 := h.c1
  have c0 := h.c0
  have ca := h.at hc
  have hv := h.each c hc
  rw [hS] at hv
  obtain ⟨k, o, cap, hvv, hkl, ce, hka, hcap, hcap9⟩ := hv.head
  unfold maxLen at hcap9
  rw [hvv] at ca
  have ic : (c : Int) < (n : Int) := by omega
  have hwf : WfZ x := h.wf c x (by rw [hS]; simp)
  have HM : MapZ clE 3 w.drew a.bm m S.H := h.map.gr0 (Gr.refl [] w).drew
  obtain ⟨w3, hput, HM3, g3, hz3⟩ := (show MapZ clE 3 w.drew.drew a.bm m S.H from h.map.gr0 (Gr.refl [] w).drew.drew).put_run hm hwf c
  have g3' : Gr [a.bm] w w3 := (show Gr [a.bm] w w.drew.drew from (Gr.refl [a.bm] w).drew.drew).trans g3
  have hnd := h.nd
  simp only [LkA.all, List.nodup_cons, List.mem_cons, List.not_mem_nil, or_false, not_or, List.nodup_nil, and_true, not_false_eq_true] at hnd
  have H3 := h.head.gr g3' (by simp; exact hnd.1.1)
  have R3 := h.row.gr g3' (by simp; exact fun e => hnd.2 e.symm)
  have d1 : w3.cell? ⟨a.b, 1, none⟩ = some (.slice (some ⟨a.bw, 0, none⟩) n n) := H3.cell 1
  have dr : w3.cell? ⟨a.bw, c, none⟩ = some (.slice (some ⟨k, o, none⟩) (r.length + 1) cap) := by
    rw [R3.cell, ← h.row.cell]; exact ca
  have df := R3.frozen c
  have d0 : w3.cell? ⟨a.b, 0, none⟩ = some (.map (some a.bm)) := H3.cell 0
  have dx : w3.cell? ⟨k, o, none⟩ = some (.int .i64 x) := (World.cell?_of_block (w := w) (g3'.block k hkl (by simp; exact fun e => hka (by simp [LkA.all, e])))).trans ce
  have i0 : (0 : Int) < ((r.length + 1 : Nat) : Int) := by omega
  obtain ⟨l, hl⟩ : ∃ l, l = r.length + 1 := ⟨_, rfl⟩
  rw [← hl] at ca i0 dr hcap
  have i00 : 0 < l := by omega
  have i1 : (1 : Int) ≤ (l : Int) := by omega
  have i2 : (l : Int) ≤ (cap : Int) := by omega
  have hl0 : (l == 0) = false := by rw [beq_eq_false_iff_ne]; omega
  have hlk := HM.look_ok Try.underlying3 (show Try.prog.underlying 53 = some (.map 3 3) from Try.underlying53) hwf
  rw [hd] at hlk
  replace hlk : _ = Result.ok (Value.tuple #[.int .i64 0, .bool false]) w.drew := hlk
  have HH := Lib.hid (And.intro h (And.intro hS (And.intro hd (And.intro hv (And.intro HM3 (And.intro g3' (And.intro H3 R3)))))))
  have HL := Lib.hid hl
  have hrd : RdI w (some ⟨k, o, none⟩) (x :: r) := by
    obtain ⟨ao, cp, q1, q2, -⟩ := hv
    rw [hvv] at q1
    injection q1 with q1
    rw [q1]; exact q2
  have HV2 := Lib.hid (show LkV w a (.slice (some ⟨k, o + 1, none⟩) (l - 1) (cap - 1)) r from ⟨some ⟨k, o + 1, none⟩, cap - 1, by rw [hl]; rfl, hrd.tail, by omega, by unfold maxLen; omega, (fun e => by cases e), fun k' o' e => by cases e; exact hka⟩)
  have HV1 := Lib.hid (show cap = 1 → LkV w a (.slice (some ⟨k, o, none⟩) 0 0) r from fun e1 => by
    have hr0 : r = [] := List.length_eq_zero_iff.1 (by omega)
    subst hr0
    exact ⟨some ⟨k, o, none⟩, 0, rfl, RdI.nil _ _, by simp, by unfold maxLen; omega, (fun e => by cases e), fun k' o' e => by cases e; exact hka⟩)
  have HVB := Lib.hid (show (vs c).ownBlock = some k by rw [hvv]; rfl)
  clear hrd
  clear h hv hvv hS hk hl HM hd HM3 g3 g3' H3 R3 hz3
  go_enter Try.func12, Try.ntmps12
  go_wp2_with (go_at_call 19; refine HC.out.mono ?_; rintro e w' ⟨rfl, hw⟩; rw [hw])
  go_region_held3 (fun w' : World => w'.cell? ⟨a.b, 0, none⟩ = some (.map (some a.bm)) ∧ w'.cell? ⟨a.b, 1, none⟩ = some (.slice (some ⟨a.bw, 0, none⟩) n n) ∧ w'.cell? ⟨a.bw, c, none⟩ = some (.slice (some ⟨k, o, none⟩) l cap) ∧ w'.cell? ⟨k, o, none⟩ = some (.int .i64 x)) (first | assumption | go_keep) (fail)
  have c0d : w.drew.cell? ⟨a.b, 0, none⟩ = some (.map (some a.bm)) := c0
  have ced : w.drew.cell? ⟨k, o, none⟩ = some (.int .i64 x) := ce
  have c0e : w.drew.drew.cell? ⟨a.b, 0, none⟩ = some (.map (some a.bm)) := c0
  have cee : w.drew.drew.cell? ⟨k, o, none⟩ = some (.int .i64 x) := ce
  go_wp2_with fail
  go_region_held3 (fun w' : World => w'.cell? ⟨a.b, 0, none⟩ = some (.map (some a.bm)) ∧ w'.cell? ⟨k, o, none⟩ = some (.int .i64 x)) (first | assumption | go_keep) (fail)
  go_wp2_with fail
  have hne : a.b ≠ a.bw := hnd.1.2
  have hfar : ∀ V, (w3.setCell ⟨a.bw, c, none⟩ V).cell? ⟨a.b, 1, none⟩ = some (.slice (some ⟨a.bw, 0, none⟩) n n) := fun V => by
    rw [← d1]; exact World.cell?_of_block (w := w3) (Below.heap_setCell _ ⟨a.bw, c, none⟩ _ a.b hne)
  have hfard : ∀ V, (w3.drew.setCell ⟨a.bw, c, none⟩ V).cell? ⟨a.b, 1, none⟩ = some (.slice (some ⟨a.bw, 0, none⟩) n n) := hfar
  have d1d : w3.drew.cell? ⟨a.b, 1, none⟩ = some (.slice (some ⟨a.bw, 0, none⟩) n n) := d1
  have drd : w3.drew.cell? ⟨a.bw, c, none⟩ = some (.slice (some ⟨k, o, none⟩) l cap) := dr
  have dfd : w3.drew.frozen? ⟨a.bw, c, none⟩ = false := df
  by_cases hc1 : cap = 1
  · subst hc1
    have hr0 : r = [] := List.length_eq_zero_iff.1 (by have := HL.out; omega)
    go_region_held3 (fun w' : World => w'.cell? ⟨a.b, 1, none⟩ = some (.slice (some ⟨a.bw, 0, none⟩) n n)) (first | assumption | exact hfard _ | exact hfar _ | go_keep) (fail)
    have hrl : l - 1 = r.length := by rw [HL.out]; rfl
    have e9 : (l - 1 == 0) = decide (r = []) := by
      rw [hrl, Bool.eq_iff_iff]
      simp
    have e8 : ∀ q : Nat, q = l - 1 → ((q : Int) == 0) = decide (r = []) := fun q hq => by
      rw [hq, hrl, Bool.eq_iff_iff]
      simp
    clear hrl
    have caz : (w3.setCell ⟨a.bw, c, none⟩ (.slice (some ⟨k, o, none⟩) 0 0)).cell? ⟨a.bw, c, none⟩ = some (.slice (some ⟨k, o, none⟩) 0 0) := World.cell?_setCell_same' _ _ _ (by rw [dr]; rfl)
    have cazd : (w3.setCell ⟨a.bw, c, none⟩ (.slice (some ⟨k, o, none⟩) 0 0)).drew.cell? ⟨a.bw, c, none⟩ = some (.slice (some ⟨k, o, none⟩) 0 0) := caz
    have c1z : (w3.setCell ⟨a.bw, c, none⟩ (.slice (some ⟨k, o, none⟩) 0 0)).drew.cell? ⟨a.b, 1, none⟩ = some (.slice (some ⟨a.bw, 0, none⟩) n n) := hfar _
    have HF := Lib.hid (take_is (V := (.slice (some ⟨k, o, none⟩) 0 0)) HH.out.1 hc HH.out.2.1 HH.out.2.2.1 HH.out.2.2.2.2.1 HH.out.2.2.2.2.2.1 HH.out.2.2.2.2.2.2.1 HH.out.2.2.2.2.2.2.2 (by
      exact HV1.out rfl) (fun q hq => by rw [HVB.out]; exact hq))
    go_wp2_with fail
    go_ret2
    exact ⟨rfl, HF.out.1, HF.out.2⟩
  · have hcb : (cap == 1) = false := by simpa using hc1
    go_region_held3 (fun w' : World => w'.cell? ⟨a.b, 1, none⟩ = some (.slice (some ⟨a.bw, 0, none⟩) n n)) (first | assumption | exact hfard _ | exact hfar _ | go_keep) (fail)
    have hrl : l - 1 = r.length := by rw [HL.out]; rfl
    have e9 : (l - 1 == 0) = decide (r = []) := by
      rw [hrl, Bool.eq_iff_iff]
      simp
    have e8 : ∀ q : Nat, q = l - 1 → ((q : Int) == 0) = decide (r = []) := fun q hq => by
      rw [hq, hrl, Bool.eq_iff_iff]
      simp
    clear hrl
    have caz : (w3.setCell ⟨a.bw, c, none⟩ (.slice (some ⟨k, o + 1, none⟩) (l - 1) (cap - 1))).cell? ⟨a.bw, c, none⟩ = some (.slice (some ⟨k, o + 1, none⟩) (l - 1) (cap - 1)) := World.cell?_setCell_same' _ _ _ (by rw [dr]; rfl)
    have cazd : (w3.setCell ⟨a.bw, c, none⟩ (.slice (some ⟨k, o + 1, none⟩) (l - 1) (cap - 1))).drew.cell? ⟨a.bw, c, none⟩ = some (.slice (some ⟨k, o + 1, none⟩) (l - 1) (cap - 1)) := caz
    have c1z : (w3.setCell ⟨a.bw, c, none⟩ (.slice (some ⟨k, o + 1, none⟩) (l - 1) (cap - 1))).drew.cell? ⟨a.b, 1, none⟩ = some (.slice (some ⟨a.bw, 0, none⟩) n n) := hfar _
    have HF := Lib.hid (take_is (V := (.slice (some ⟨k, o + 1, none⟩) (l - 1) (cap - 1))) HH.out.1 hc HH.out.2.1 HH.out.2.2.1 HH.out.2.2.2.2.1 HH.out.2.2.2.2.2.1 HH.out.2.2.2.2.2.2.1 HH.out.2.2.2.2.2.2.2 (by
      exact HV2.out) (fun q hq => by rw [HVB.out]; exact hq))
    go_wp2_with fail
    go_ret2
    exact ⟨rfl, HF.out.1, HF.out.2⟩

end Go.Proofs.Ytlafmdpcabgcdaa
