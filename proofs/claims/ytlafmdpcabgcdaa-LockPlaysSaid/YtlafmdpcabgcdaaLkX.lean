/-
  Layer 24: Ask.
-/
import Derived.Test.YtlafmdpcabgcdaaLkW
import Derived.Test.YtlafmdpcabgcdaaSvI
import Derived.Deep.QuietTactic
import Derived.BigQuiet
namespace Go.Proofs.Ytlafmdpcabgcdaa
open Go.RowKit

def mayH (S : LkS) (c : Nat) (xs : List Int) : Prop := ∀ x ∈ xs, ∀ y, S.H y = some c → y < x
theorem ask_is {a : LkA} {n m : Nat} {vs : Nat → Value} {S : LkS} {c : Nat} {w w5 : World} {v : Value} {l : List Int} (h : LkIs w a n m vs S) (hc : c < n) (g : Gr [] w w5) (hv : SlZ w5 v l) (hnb : ∀ k, v.ownBlock = some k → w.heap.size ≤ k ∧ k < w5.heap.size)
    (hl : Rise l) (hwf : ∀ x ∈ l, WfZ x) (ha : ∀ x y, S.H x = some c → y ∈ l → x < y) :
    Gr a.all w (w5.setCell ⟨a.bw, c, none⟩ v) ∧ ∃ vs', LkIs (w5.setCell ⟨a.bw, c, none⟩ v) a n m vs' (askL S c l) ∧ NwV w (w5.setCell ⟨a.bw, c, none⟩ v) vs vs' := by
  have hnd := h.nd
  simp only [LkA.all, List.nodup_cons, List.mem_cons, List.not_mem_nil, or_false, not_or, List.nodup_nil, and_true, not_false_eq_true] at hnd
  have h5 := h.gr0 g
  have gs : Gr [a.bw] w5 (w5.setCell ⟨a.bw, c, none⟩ v) := (Gr.refl [a.bw] w5).setCell (p := ⟨a.bw, c, none⟩) (.inl (by simp)) v
  have gall : Gr a.all w5 (w5.setCell ⟨a.bw, c, none⟩ v) := gs.mono (fun b hb => by simp at hb; simp [LkA.all, hb])
  have hok := h.ok.ask hc hl ha
  refine ⟨g.of0.trans gall, fun d => if d = c then v else vs d, ⟨h5.head.gr gs (by simp; exact hnd.1.2), h5.map.gr gs (by simp; exact hnd.2), ?_, fun d hdn => ?_, h.nd, hok, h.hi, fun d y hy => ?_⟩, fun d q hq => ?_⟩
  · have := h5.row.set c v
    rw [row_set] at this
    exact this
  · by_cases e : d = c
    · subst e
      simp only [askL, if_true, setW]
      have hbl : ∀ k (o : Nat), v.ownBlock = some k → k ∉ a.all := fun k _ hk q => by have := h.lt k q; have := (hnb k hk).1; omega
      obtain ⟨ao, cap, rfl, hr, h1, h2, h3⟩ := hv
      have hv' : LkV w5 a (.slice ao l.length cap) l := ⟨ao, cap, rfl, hr, h1, h2, h3, fun k o e => hbl k o (by rw [e]; rfl)⟩
      exact hv'.gr gall (fun b hb => .inl hb)
    · simp only [askL, if_neg e, setW]
      exact (h5.each d hdn).gr gall (fun b hb => .inl hb)
  · simp only [askL, setW] at hy
    split at hy
    · exact hwf y hy
    · exact h.wf d y hy
  · simp only at hq
    split at hq
    · exact .inr ⟨(hnb q hq).1, Nat.lt_of_lt_of_le (hnb q hq).2 gs.size⟩
    · exact .inl hq
theorem last_rd {w : World} {k o : Nat} {l : List Int} {y : Int} (h : RdI w (some ⟨k, o, none⟩) (l ++ [y])) : w.cell? ⟨k, o + l.length, none⟩ = some (.int .i64 y) := by
  obtain ⟨k', o', h1, h2, h3⟩ := h l.length y (by simp)
  cases h1; exact h3
theorem slz_snoc {w : World} {v : Value} {l : List Int} {y : Int} (h : SlZ w v (l ++ [y])) : ∃ k o cap, v = .slice (some ⟨k, o, none⟩) (l.length + 1) cap ∧ w.cell? ⟨k, o + l.length, none⟩ = some (.int .i64 y) ∧ l.length + 1 ≤ cap ∧ cap ≤ maxLen := by
  obtain ⟨ao, cap, h1, h2, h3, h4, h5⟩ := h
  obtain ⟨k, o, q1, q2, q3⟩ := h2 l.length y (by simp)
  subst q1
  exact ⟨k, o, cap, by rw [h1]; simp, q3, by simpa using h3, h4⟩
theorem slz_nil {w : World} {v : Value} (h : SlZ w v []) : ∃ ao cap, v = .slice ao 0 cap := by
  obtain ⟨ao, cap, h1, -⟩ := h
  exact ⟨ao, cap, h1⟩
theorem own_drewX {w : World} {base n size : Nat} {e : TypeId} {v : Value} {xs : List Value} (h : w.ownsRow base e size v n xs) : w.drew.ownsRow base e size v n xs := h
theorem slz_any {w : World} {v : Value} {l : List Int} (h : SlZ w v l) : ∃ ao cap, v = .slice ao l.length cap := by
  obtain ⟨ao, cap, h1, -⟩ := h
  exact ⟨ao, cap, h1⟩
set_option maxRecDepth 100000 in
set_option maxHeartbeats 8000000 in
theorem ask_busy (a : LkA) (n m : Nat) (vs : Nat → Value) (S : LkS) (c : Nat) (v : Value) (xs : List Int) (w : World) (h : LkIs w a n m vs S) (hc : c < n) (hw : WfH S) (hm : m ≤ 100000) (hv : SlZ w v xs) (hx6 : xs.length ≤ 1000) (x : Int) (r : List Int) (hS : S.W c = x :: r) :
    Calls Try.prog 8 #[.pointer (some ⟨a.b, 0, none⟩), .int .i64 c, v] w fun e w' => e = .returned (.int .i64 8) ∧ Gr [] w w' := by
  have HC := Lib.hid (check_at a n m vs S c w h)
  have hk : chkE n c = 0 := by unfold chkE; rw [if_pos (by omega)]
  rw [hk] at HC
  have H := Lib.hid h
  have HWF := Lib.hid hw
  have ic : (c : Int) < (n : Int) := by omega
  obtain ⟨ao, cap, rfl, hrd, hcap, hcap9, hnone⟩ := hv
  have gB : Gr [] w (w.alloc (.cells #[.slice ao xs.length cap] 32)) := (Gr.refl [] w).alloc _
  have HB := Lib.hid (Holds.new w #[.slice ao xs.length cap] 32)
  have HI := Lib.hid (show IntsAt w.heap.size (w.alloc (.cells #[.slice ao xs.length cap] 32)) (.slice ao xs.length cap) xs from ⟨ao, cap, rfl, hrd.gr0 gB, hcap, fun k o i x hi e => by obtain ⟨k', o', q1, q2, -⟩ := hrd i x hi; rw [q1] at e; injection e with e; injection e with e; omega, hnone⟩)
  have HS := Lib.hid (sortedv_at w.heap.size w.heap.size (.slice ao xs.length cap) xs (by omega) (w.alloc (.cells #[.slice ao xs.length cap] 32)) (by rw [World.size_alloc]; omega) (by rw [World.size_alloc]; omega) (HB.out.cell 0) HI.out)
  have HGB := Lib.hid gB
  clear h hk hrd hnone gB hw
  obtain ⟨N, hN⟩ : ∃ N, N = xs.length := ⟨_, rfl⟩
  rw [← hN] at HS HB HGB hcap hx6 ⊢
  have HN := Lib.hid hN
  clear hN HI HB
  go_enter Try.func8, Try.ntmps8
  go_wp2_with (first
    | (go_at_call 19; refine HC.out.mono ?_; rintro e w' ⟨rfl, hw⟩; rw [hw])
    | (go_at_call 21; refine (values_at _ _ _ _).mono ?_; rintro e w' ⟨rfl, hw⟩; rw [hw]))
  go_at_call 20
  refine HS.out.mono ?_
  rintro e w2 ⟨v1, rfl, ho1, hb1⟩
  have HG2 := Lib.hid (HGB.out.next0 (Gr.ofBelow (cs := []) hb1))
  have HO1 := Lib.hid (And.intro ho1 (show w.heap.size < (w.alloc (.cells #[.slice ao N cap] 32)).heap.size by rw [World.size_alloc]; omega))
  clear ho1 hb1
  go_wp2_with fail
  go_at_call 15
  refine (has_at a n m vs S c w2 (H.out.gr0 HG2.out) hc HWF.out hm).mono ?_
  rintro e w3 ⟨v2, l2, rfl, hr2, hm2, hv2, hg2, -⟩
  have HG3 := Lib.hid (HG2.out.next0 hg2)
  have HO3 := Lib.hid (own_gr0 HO1.out.1 hg2)
  have H3 := Lib.hid (H.out.gr0 HG3.out)
  have HL2 := Lib.hid (And.intro hr2 hm2)
  have c1 : w3.cell? ⟨a.b, 1, none⟩ = some (.slice (some ⟨a.bw, 0, none⟩) n n) := H3.out.c1
  have ca := H3.out.at hc
  have hvc := H3.out.each c hc
  rw [hS] at hvc
  obtain ⟨k, o, cp, hvv, hkl, ce, -, hcp, hcp9⟩ := hvc.head
  rw [hvv] at ca
  obtain ⟨L, hL⟩ : ∃ L, L = r.length + 1 := ⟨_, rfl⟩
  rw [← hL] at ca
  have j0 : decide ((0 : Int) < (L : Int)) = true := decide_eq_true (by omega)
  have j1 : (0 : Int) < (L : Int) := by omega
  have j2 : decide (0 < L) = true := decide_eq_true (by omega)
  have j3 : 0 < L := by omega
  obtain ⟨ao1, cp1, hv1⟩ := slz_any (own_slz HO3.out)
  obtain ⟨ao2, cp2, hv2'⟩ := slz_any hv2
  subst hv1 hv2'
  clear hvc hvv hS hL hv2 hg2 hr2 hm2 ce hkl hcp hcp9
  generalize l2.length = M at *
  generalize hsl : (srt xs).length = K at *
  clear hsl
  go_wp2_with fail
  go_quiet (fail)
  go_wp2_with fail
  go_ret
  exact ⟨rfl, HG3.out.drewN _⟩
set_option maxRecDepth 100000 in
set_option maxHeartbeats 8000000 in
theorem ask_no (a : LkA) (n m : Nat) (vs : Nat → Value) (S : LkS) (c : Nat) (v : Value) (xs : List Int) (w : World) (h : LkIs w a n m vs S) (hc : c < n) (hw : WfH S) (hm : m ≤ 100000) (hv : SlZ w v xs) (hx6 : xs.length ≤ 1000) (hS : S.W c = []) (hno : ¬ mayH S c xs) :
    Calls Try.prog 8 #[.pointer (some ⟨a.b, 0, none⟩), .int .i64 c, v] w fun e w' => e = .returned (.int .i64 8) ∧ Gr [] w w' := by
  have HC := Lib.hid (check_at a n m vs S c w h)
  have hk : chkE n c = 0 := by unfold chkE; rw [if_pos (by omega)]
  rw [hk] at HC
  have H := Lib.hid h
  have HWF := Lib.hid hw
  have ic : (c : Int) < (n : Int) := by omega
  obtain ⟨ao, cap, rfl, hrd, hcap, hcap9, hnone⟩ := hv
  have gB : Gr [] w (w.alloc (.cells #[.slice ao xs.length cap] 32)) := (Gr.refl [] w).alloc _
  have HB := Lib.hid (Holds.new w #[.slice ao xs.length cap] 32)
  have HI := Lib.hid (show IntsAt w.heap.size (w.alloc (.cells #[.slice ao xs.length cap] 32)) (.slice ao xs.length cap) xs from ⟨ao, cap, rfl, hrd.gr0 gB, hcap, fun k o i x hi e => by obtain ⟨k', o', q1, q2, -⟩ := hrd i x hi; rw [q1] at e; injection e with e; injection e with e; omega, hnone⟩)
  have HS := Lib.hid (sortedv_at w.heap.size w.heap.size (.slice ao xs.length cap) xs (by omega) (w.alloc (.cells #[.slice ao xs.length cap] 32)) (by rw [World.size_alloc]; omega) (by rw [World.size_alloc]; omega) (HB.out.cell 0) HI.out)
  have HGB := Lib.hid gB
  clear h hk hrd hnone gB hw
  obtain ⟨N, hN⟩ : ∃ N, N = xs.length := ⟨_, rfl⟩
  rw [← hN] at HS HB HGB hcap hx6 ⊢
  have HN := Lib.hid hN
  clear hN HI HB
  go_enter Try.func8, Try.ntmps8
  go_wp2_with (first
    | (go_at_call 19; refine HC.out.mono ?_; rintro e w' ⟨rfl, hw⟩; rw [hw])
    | (go_at_call 21; refine (values_at _ _ _ _).mono ?_; rintro e w' ⟨rfl, hw⟩; rw [hw]))
  go_at_call 20
  refine HS.out.mono ?_
  rintro e w2 ⟨v1, rfl, ho1, hb1⟩
  have HG2 := Lib.hid (HGB.out.next0 (Gr.ofBelow (cs := []) hb1))
  have HO1 := Lib.hid (And.intro ho1 (show w.heap.size < (w.alloc (.cells #[.slice ao N cap] 32)).heap.size by rw [World.size_alloc]; omega))
  clear ho1 hb1
  go_wp2_with fail
  go_at_call 15
  refine (has_at a n m vs S c w2 (H.out.gr0 HG2.out) hc HWF.out hm).mono ?_
  rintro e w3 ⟨v2, l2, rfl, hr2, hm2, hv2, hg2, -⟩
  have HG3 := Lib.hid (HG2.out.next0 hg2)
  have HO3 := Lib.hid (own_gr0 HO1.out.1 hg2)
  have H3 := Lib.hid (H.out.gr0 HG3.out)
  have HL2 := Lib.hid (And.intro hr2 hm2)
  have c1 : w3.cell? ⟨a.b, 1, none⟩ = some (.slice (some ⟨a.bw, 0, none⟩) n n) := H3.out.c1
  have ca := H3.out.at hc
  have hvc := H3.out.each c hc
  rw [hS] at hvc
  obtain ⟨aow, cpw, hvv, -⟩ := hvc
  have hvv : vs c = .slice aow 0 cpw := hvv
  rw [hvv] at ca
  clear hvv
  obtain ⟨x, hx, y, hy, hxy⟩ : ∃ x ∈ xs, ∃ y, S.H y = some c ∧ x ≤ y := by
    apply Classical.byContradiction
    intro hcon
    refine hno fun x hx y hy => ?_
    apply Classical.byContradiction
    intro h2
    exact hcon ⟨x, hx, y, hy, by omega⟩
  obtain ⟨ini, z, hl2⟩ : ∃ ini z, l2 = ini ++ [z] := by
    refine ⟨l2.dropLast, l2.getLast (fun e => ?_), (List.dropLast_concat_getLast _).symm⟩
    have := (hm2 y).2 hy
    rw [e] at this; cases this
  obtain ⟨f, r, hsr⟩ : ∃ f r, srt xs = f :: r := by
    cases e : srt xs with
    | nil => have := (srt_mem xs x).2 hx; rw [e] at this; cases this
    | cons f r => exact ⟨f, r, rfl⟩
  have hfz : f ≤ z := by
    have h1 := srt_sorted xs
    rw [hsr] at h1
    have h2 : f ≤ x := by
      have h3 := (srt_mem xs x).2 hx
      rw [hsr] at h3
      rcases List.mem_cons.1 h3 with q | q
      · omega
      · exact (List.pairwise_cons.1 h1).1 x q
    have h4 : y ≤ z := by
      have h5 := (hm2 y).2 hy
      rw [hl2] at h5 hr2
      rcases List.mem_append.1 h5 with q | q
      · have := (List.pairwise_append.1 hr2).2.2 y q z (by simp); omega
      · simp at q; omega
    omega
  rw [hl2] at hv2
  obtain ⟨k2, o2, cp2, rfl, ce2, hq2, hq29⟩ := slz_snoc hv2
  have hs1 := own_slz HO3.out
  rw [hsr] at hs1
  obtain ⟨k1, o1, cp1, rfl, -, ce1, hq1, hq19⟩ := hs1.first
  obtain ⟨M, hM⟩ : ∃ M, M = ini.length + 1 := ⟨_, rfl⟩
  obtain ⟨K, hK⟩ : ∃ K, K = r.length + 1 := ⟨_, rfl⟩
  rw [show ini.length = M - 1 by omega] at ce2
  rw [← hM] at hq2
  unfold maxLen at hq29
  rw [← hM, ← hK]
  have j1 : (0 : Int) < (M : Int) := by omega
  have j2 : (0 : Int) < (K : Int) := by omega
  have j3 : decide ((0 : Int) < (M : Int)) = true := decide_eq_true j1
  have j4 : decide ((0 : Int) < (K : Int)) = true := decide_eq_true j2
  have j5 : 0 < M := by omega
  have j6 : 0 < K := by omega
  have j7 : decide (0 < M) = true := decide_eq_true j5
  have j8 : decide (0 < K) = true := decide_eq_true j6
  have j9 : decide (f ≤ z) = true := decide_eq_true hfz
  have jm : IntKind.i64.wrap ((M : Int) - 1) = (M : Int) - 1 := IntWalk.i64_in _ (by omega)
  have jm0 : (0 : Int) ≤ (M : Int) - 1 := by omega
  have jm1 : (M : Int) - 1 < (M : Int) := by omega
  have jm2 : ((M : Int) - 1).toNat = M - 1 := by omega
  have jm3 : (1 : Int) ≤ (M : Int) := by omega
  clear hv2 hg2 hr2 hm2 hl2 hsr hs1 hx hy hxy hS hno hM hK hq1 hq19 hfz
  go_wp2_with fail
  go_quiet (fail)
  go_wp2_with fail
  go_ret
  exact ⟨rfl, HG3.out.drewN _⟩
set_option maxRecDepth 100000 in
set_option maxHeartbeats 8000000 in
theorem ask_yes (a : LkA) (n m : Nat) (vs : Nat → Value) (S : LkS) (c : Nat) (v : Value) (xs : List Int) (w : World) (h : LkIs w a n m vs S) (hc : c < n) (hw : WfH S) (hm : m ≤ 100000) (hv : SlZ w v xs) (hx6 : xs.length ≤ 1000) (hS : S.W c = []) (hyes : mayH S c xs) (hwx : ∀ x ∈ xs, WfZ x) :
    Calls Try.prog 8 #[.pointer (some ⟨a.b, 0, none⟩), .int .i64 c, v] w fun e w' => e = .returned (.int .i64 0) ∧ Gr a.all w w' ∧ ∃ l vs', Rise l ∧ (∀ z, z ∈ l ↔ z ∈ xs) ∧ LkIs w' a n m vs' (askL S c l) ∧ NwV w w' vs vs' := by
  have HC := Lib.hid (check_at a n m vs S c w h)
  have hk : chkE n c = 0 := by unfold chkE; rw [if_pos (by omega)]
  rw [hk] at HC
  have H := Lib.hid h
  have HWF := Lib.hid hw
  have ic : (c : Int) < (n : Int) := by omega
  have HYES := Lib.hid (And.intro hyes hwx)
  obtain ⟨ao, cap, rfl, hrd, hcap, hcap9, hnone⟩ := hv
  have gB : Gr [] w (w.alloc (.cells #[.slice ao xs.length cap] 32)) := (Gr.refl [] w).alloc _
  have HB := Lib.hid (Holds.new w #[.slice ao xs.length cap] 32)
  have HI := Lib.hid (show IntsAt w.heap.size (w.alloc (.cells #[.slice ao xs.length cap] 32)) (.slice ao xs.length cap) xs from ⟨ao, cap, rfl, hrd.gr0 gB, hcap, fun k o i x hi e => by obtain ⟨k', o', q1, q2, -⟩ := hrd i x hi; rw [q1] at e; injection e with e; injection e with e; omega, hnone⟩)
  have HS := Lib.hid (sortedv_at w.heap.size w.heap.size (.slice ao xs.length cap) xs (by omega) (w.alloc (.cells #[.slice ao xs.length cap] 32)) (by rw [World.size_alloc]; omega) (by rw [World.size_alloc]; omega) (HB.out.cell 0) HI.out)
  have HGB := Lib.hid gB
  clear h hk hrd hnone gB hw
  obtain ⟨N, hN⟩ : ∃ N, N = xs.length := ⟨_, rfl⟩
  rw [← hN] at HS HB HGB hcap hx6 ⊢
  have HN := Lib.hid hN
  clear hN HI HB
  go_enter Try.func8, Try.ntmps8
  go_wp2_with (first
    | (go_at_call 19; refine HC.out.mono ?_; rintro e w' ⟨rfl, hw⟩; rw [hw])
    | (go_at_call 21; refine (values_at _ _ _ _).mono ?_; rintro e w' ⟨rfl, hw⟩; rw [hw]))
  go_at_call 20
  refine HS.out.mono ?_
  rintro e w2 ⟨v1, rfl, ho1, hb1⟩
  have HG2 := Lib.hid (HGB.out.next0 (Gr.ofBelow (cs := []) hb1))
  have HO1 := Lib.hid (And.intro ho1 (show w.heap.size < (w.alloc (.cells #[.slice ao N cap] 32)).heap.size by rw [World.size_alloc]; omega))
  clear ho1 hb1
  go_wp2_with fail
  go_at_call 15
  refine (has_at a n m vs S c w2 (H.out.gr0 HG2.out) hc HWF.out hm).mono ?_
  rintro e w3 ⟨v2, l2, rfl, hr2, hm2, hv2, hg2, -⟩
  have HG3 := Lib.hid (HG2.out.next0 hg2)
  have HO3 := Lib.hid (own_gr0 HO1.out.1 hg2)
  have H3 := Lib.hid (H.out.gr0 HG3.out)
  have HL2 := Lib.hid (And.intro hr2 hm2)
  have c1 : w3.cell? ⟨a.b, 1, none⟩ = some (.slice (some ⟨a.bw, 0, none⟩) n n) := H3.out.c1
  have ca := H3.out.at hc
  have hvc := H3.out.each c hc
  rw [hS] at hvc
  obtain ⟨aow, cpw, hvv, -⟩ := hvc
  have hvv : vs c = .slice aow 0 cpw := hvv
  rw [hvv] at ca
  have HVC := Lib.hid (show vs c = .slice aow 0 cpw from hvv)
  clear hvv
  rcases (show l2 = [] ∨ ∃ ini z, l2 = ini ++ [z] from by
    rcases l2.eq_nil_or_concat with q | ⟨ini, z, q⟩
    · exact .inl q
    · exact .inr ⟨ini, z, by rw [q, List.concat_eq_append]⟩) with hl2 | ⟨ini, z, hl2⟩
  · obtain ⟨ao1, cp1, hv1⟩ := slz_any (own_slz HO3.out)
    obtain ⟨K1, hK1⟩ : ∃ K, K = (srt xs).length := ⟨_, rfl⟩
    rw [← hK1] at hv1
    subst hv1
    rw [hl2] at hv2
    obtain ⟨ao2, cp2, rfl⟩ := slz_nil hv2
    clear hv2 hg2 hr2 hm2 hl2 hS hyes hwx hK1
    go_wp2_with fail
    go_quiet (fail)
    have HX1 := Lib.hid (And.intro (own_gr0 HO3.out ((Gr.refl [] w3).drewN nq)) (HG3.out.drewN nq))
    have c1x : (w3.drewN nq).cell? ⟨a.b, 1, none⟩ = some (.slice (some ⟨a.bw, 0, none⟩) n n) := c1
    have cax : (w3.drewN nq).cell? ⟨a.bw, c, none⟩ = some (.slice aow 0 cpw) := ca
    have HH1 := Lib.hid (H3.out.gr0 ((Gr.refl [] w3).drewN nq))
    have HBL := Lib.hid (show ∀ k, (Value.slice ao1 K1 cp1).ownBlock = some k → w.heap.size ≤ k ∧ k < (w3.drewN nq).heap.size from fun k hk => ⟨by have := (HO3.out.lt k hk).1; have := HO1.out.2; omega, (HO3.out.lt k hk).2⟩)
    clear c1 ca
    generalize w3.drewN nq = x1 at *
    go_wp2_with fail
    go_region_with ((go_at_call 22; refine (compact_row (own_drewX HX1.out.1) (srt_sorted xs)).mono ?_; rintro e w5 ⟨v5, l5, rfl, hvb5, hr5, hm5, hs5, hg5⟩; have gw : Gr [] w w5 := HX1.out.2.drew.nextN (gr_grownL hg5) (fun b hb => .inr (HBL.out b (by simpa using hb)).1); have H5 := Lib.hid (H.out.gr0 gw); have d1 := H5.out.c1; have dr := H5.out.at hc; have df := H5.out.row.frozen c; rw [HVC.out] at dr; have HK5 := Lib.hid (And.intro gw (And.intro hs5 (And.intro (show ∀ k, v5.ownBlock = some k → w.heap.size ≤ k ∧ k < w5.heap.size from fun k hk => ⟨(HBL.out k (by rw [← hvb5]; exact hk)).1, Nat.lt_of_lt_of_le (HBL.out k (by rw [← hvb5]; exact hk)).2 hg5.size⟩) (And.intro hr5 hm5)))); obtain ⟨ao5, cp5, hv5⟩ := slz_any hs5; subst hv5; clear gw hs5 hvb5 hr5 hm5 hg5))
    all_goals
      go_wp2_with fail
      go_ret
      have HM := Lib.hid (show ∀ z, z ∈ l5 ↔ z ∈ xs from fun z => (HK5.out.2.2.2.2 z).trans (srt_mem xs z))
      obtain ⟨q1, vs', q2, q3⟩ := ask_is H.out hc HK5.out.1 HK5.out.2.1 HK5.out.2.2.1 HK5.out.2.2.2.1 (fun x hx => HYES.out.2 x ((HM.out x).1 hx)) (fun x y hx hy => HYES.out.1 y ((HM.out y).1 hy) x hx)
      exact ⟨rfl, q1, l5, vs', HK5.out.2.2.2.1, HM.out, q2, q3⟩
  · rcases (show srt xs = [] ∨ ∃ f r, srt xs = f :: r from by
      cases srt xs with
      | nil => exact .inl rfl
      | cons f r => exact .inr ⟨f, r, rfl⟩) with hsr | ⟨f, r, hsr⟩
    · have hs1 := own_slz HO3.out
      rw [hsr] at hs1
      obtain ⟨ao1, cp1, rfl⟩ := slz_nil hs1
      obtain ⟨K1, hK1⟩ : ∃ K : Nat, K = 0 := ⟨_, rfl⟩
      rw [hl2] at hv2
      obtain ⟨k2, o2, cp2, rfl, ce2, hq2, hq29⟩ := slz_snoc hv2
      obtain ⟨M, hM⟩ : ∃ M, M = ini.length + 1 := ⟨_, rfl⟩
      rw [show ini.length = M - 1 by omega] at ce2
      rw [← hM] at hq2
      unfold maxLen at hq29
      rw [← hM]
      have j1 : (0 : Int) < (M : Int) := by omega
      have j3 : decide ((0 : Int) < (M : Int)) = true := decide_eq_true j1
      have j5 : 0 < M := by omega
      have j7 : decide (0 < M) = true := decide_eq_true j5
      clear hv2 hg2 hr2 hm2 hl2 hS hyes hwx hs1 hsr hM
      go_wp2_with fail
      go_quiet (fail)
      subst hK1
      have HX1 := Lib.hid (And.intro (own_gr0 HO3.out ((Gr.refl [] w3).drewN nq)) (HG3.out.drewN nq))
      have c1x : (w3.drewN nq).cell? ⟨a.b, 1, none⟩ = some (.slice (some ⟨a.bw, 0, none⟩) n n) := c1
      have cax : (w3.drewN nq).cell? ⟨a.bw, c, none⟩ = some (.slice aow 0 cpw) := ca
      have HH1 := Lib.hid (H3.out.gr0 ((Gr.refl [] w3).drewN nq))
      have HBL := Lib.hid (show ∀ k, (Value.slice ao1 0 cp1).ownBlock = some k → w.heap.size ≤ k ∧ k < (w3.drewN nq).heap.size from fun k hk => ⟨by have := (HO3.out.lt k hk).1; have := HO1.out.2; omega, (HO3.out.lt k hk).2⟩)
      clear c1 ca
      generalize w3.drewN nq = x1 at *
      go_wp2_with fail
      go_region_with ((go_at_call 22; refine (compact_row (own_drewX HX1.out.1) (srt_sorted xs)).mono ?_; rintro e w5 ⟨v5, l5, rfl, hvb5, hr5, hm5, hs5, hg5⟩; have gw : Gr [] w w5 := HX1.out.2.drew.nextN (gr_grownL hg5) (fun b hb => .inr (HBL.out b (by simpa using hb)).1); have H5 := Lib.hid (H.out.gr0 gw); have d1 := H5.out.c1; have dr := H5.out.at hc; have df := H5.out.row.frozen c; rw [HVC.out] at dr; have HK5 := Lib.hid (And.intro gw (And.intro hs5 (And.intro (show ∀ k, v5.ownBlock = some k → w.heap.size ≤ k ∧ k < w5.heap.size from fun k hk => ⟨(HBL.out k (by rw [← hvb5]; exact hk)).1, Nat.lt_of_lt_of_le (HBL.out k (by rw [← hvb5]; exact hk)).2 hg5.size⟩) (And.intro hr5 hm5)))); obtain ⟨ao5, cp5, hv5⟩ := slz_any hs5; subst hv5; clear gw hs5 hvb5 hr5 hm5 hg5))
      all_goals
        go_wp2_with fail
        go_ret
        have HM := Lib.hid (show ∀ z, z ∈ l5 ↔ z ∈ xs from fun z => (HK5.out.2.2.2.2 z).trans (srt_mem xs z))
        obtain ⟨q1, vs', q2, q3⟩ := ask_is H.out hc HK5.out.1 HK5.out.2.1 HK5.out.2.2.1 HK5.out.2.2.2.1 (fun x hx => HYES.out.2 x ((HM.out x).1 hx)) (fun x y hx hy => HYES.out.1 y ((HM.out y).1 hy) x hx)
        exact ⟨rfl, q1, l5, vs', HK5.out.2.2.2.1, HM.out, q2, q3⟩
    · have hs1 := own_slz HO3.out
      have hfz : ¬ (f ≤ z) := by
        have h1 : f ∈ xs := (srt_mem xs f).1 (by rw [hsr]; simp)
        have h2 : S.H z = some c := (hm2 z).1 (by rw [hl2]; simp)
        have := hyes f h1 z h2
        omega
      rw [hsr] at hs1
      obtain ⟨k1, o1, cp1, rfl, -, ce1, hq1, hq19⟩ := hs1.first
      obtain ⟨K1, hK1⟩ : ∃ K, K = r.length + 1 := ⟨_, rfl⟩
      rw [← hK1] at HO3 ⊢
      rw [hl2] at hv2
      obtain ⟨k2, o2, cp2, rfl, ce2, hq2, hq29⟩ := slz_snoc hv2
      obtain ⟨M, hM⟩ : ∃ M, M = ini.length + 1 := ⟨_, rfl⟩
      rw [show ini.length = M - 1 by omega] at ce2
      rw [← hM] at hq2
      unfold maxLen at hq29
      rw [← hM]
      have j1 : (0 : Int) < (M : Int) := by omega
      have j3 : decide ((0 : Int) < (M : Int)) = true := decide_eq_true j1
      have j5 : 0 < M := by omega
      have j7 : decide (0 < M) = true := decide_eq_true j5
      have j2 : (0 : Int) < (K1 : Int) := by omega
      have j4 : decide ((0 : Int) < (K1 : Int)) = true := decide_eq_true j2
      have j6 : 0 < K1 := by omega
      have j8 : decide (0 < K1) = true := decide_eq_true j6
      have j9 : decide (f ≤ z) = false := decide_eq_false hfz
      have jm : IntKind.i64.wrap ((M : Int) - 1) = (M : Int) - 1 := IntWalk.i64_in _ (by omega)
      have jm0 : (0 : Int) ≤ (M : Int) - 1 := by omega
      have jm1 : (M : Int) - 1 < (M : Int) := by omega
      have jm2 : ((M : Int) - 1).toNat = M - 1 := by omega
      have jm3 : (1 : Int) ≤ (M : Int) := by omega
      clear hv2 hg2 hr2 hm2 hl2 hS hyes hwx hs1 hsr hM hK1 hq1 hq19 hfz
      go_wp2_with fail
      go_quiet (fail)
      have HB1 : Hid (k1 = k1) := Lib.hid rfl
      have HX1 := Lib.hid (And.intro (own_gr0 HO3.out ((Gr.refl [] w3).drewN nq)) (HG3.out.drewN nq))
      have c1x : (w3.drewN nq).cell? ⟨a.b, 1, none⟩ = some (.slice (some ⟨a.bw, 0, none⟩) n n) := c1
      have cax : (w3.drewN nq).cell? ⟨a.bw, c, none⟩ = some (.slice aow 0 cpw) := ca
      have HH1 := Lib.hid (H3.out.gr0 ((Gr.refl [] w3).drewN nq))
      have HBL := Lib.hid (show ∀ k, (Value.slice (some ⟨k1, o1, none⟩) K1 cp1).ownBlock = some k → w.heap.size ≤ k ∧ k < (w3.drewN nq).heap.size from fun k hk => ⟨by have := (HO3.out.lt k hk).1; have := HO1.out.2; omega, (HO3.out.lt k hk).2⟩)
      clear c1 ca
      generalize w3.drewN nq = x1 at *
      go_wp2_with fail
      go_region_with ((go_at_call 22; refine (compact_row (own_drewX HX1.out.1) (srt_sorted xs)).mono ?_; rintro e w5 ⟨v5, l5, rfl, hvb5, hr5, hm5, hs5, hg5⟩; have gw : Gr [] w w5 := HX1.out.2.drew.nextN (gr_grownL hg5) (fun b hb => .inr (HBL.out b (by simpa using hb)).1); have H5 := Lib.hid (H.out.gr0 gw); have d1 := H5.out.c1; have dr := H5.out.at hc; have df := H5.out.row.frozen c; rw [HVC.out] at dr; have HK5 := Lib.hid (And.intro gw (And.intro hs5 (And.intro (show ∀ k, v5.ownBlock = some k → w.heap.size ≤ k ∧ k < w5.heap.size from fun k hk => ⟨(HBL.out k (by rw [← hvb5]; exact hk)).1, Nat.lt_of_lt_of_le (HBL.out k (by rw [← hvb5]; exact hk)).2 hg5.size⟩) (And.intro hr5 hm5)))); obtain ⟨ao5, cp5, hv5⟩ := slz_any hs5; subst hv5; clear gw hs5 hvb5 hr5 hm5 hg5))
      all_goals
        go_wp2_with fail
        go_ret
        have HM := Lib.hid (show ∀ z, z ∈ l5 ↔ z ∈ xs from fun z => (HK5.out.2.2.2.2 z).trans (srt_mem xs z))
        obtain ⟨q1, vs', q2, q3⟩ := ask_is H.out hc HK5.out.1 HK5.out.2.1 HK5.out.2.2.1 HK5.out.2.2.2.1 (fun x hx => HYES.out.2 x ((HM.out x).1 hx)) (fun x y hx hy => HYES.out.1 y ((HM.out y).1 hy) x hx)
        exact ⟨rfl, q1, l5, vs', HK5.out.2.2.2.1, HM.out, q2, q3⟩
end Go.Proofs.Ytlafmdpcabgcdaa
