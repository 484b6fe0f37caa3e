/-
  Layer 24: the document's Had, Wanted, Waits over its lists in memory.
-/
import Derived.Test.YtlafmdpcabgcdaaLkL
import Derived.Test.YtlafmdpcabgcdaaLkM
namespace Go.Proofs.Ytlafmdpcabgcdaa
open Go.RowKit

def pv (l : List (Int × Int)) : List Value := l.flatMap fun e => [.int .i64 e.1, .int .i64 e.2]
theorem pv_len (l : List (Int × Int)) : (pv l).length = l.length * 2 := by
  induction l with
  | nil => rfl
  | cons e r ih => simp [pv] at ih ⊢; omega
theorem pv_snoc (l : List (Int × Int)) (e : Int × Int) : pv (l ++ [e]) = pv l ++ [.int .i64 e.1, .int .i64 e.2] := by simp [pv]
theorem pv_get (l : List (Int × Int)) (i : Nat) (e : Int × Int) (h : l[i]? = some e) : (pv l)[i * 2]? = some (.int .i64 e.1) ∧ (pv l)[i * 2 + 1]? = some (.int .i64 e.2) := by
  induction l generalizing i with
  | nil => simp at h
  | cons d r ih =>
    cases i with
    | zero => simp at h; subst h; simp [pv]
    | succ i =>
      have := ih i (by simpa using h)
      simp only [pv] at this ⊢
      rw [show (i + 1) * 2 = i * 2 + 1 + 1 by omega]
      simpa using this
theorem own_rdp {w : World} {base n : Nat} {v : Value} {l : List (Int × Int)} (h : w.ownsRow base 63 2 v n (pv l)) : ∃ ao cap, v = .slice ao l.length cap ∧ RdP w ao l ∧ n = l.length ∧ l.length ≤ cap ∧ cap ≤ maxLen := by
  have hn : n = l.length := by have := h.1; rw [pv_len] at this; omega
  subst hn
  rcases h.2 with ⟨rfl, h0⟩ | ⟨g, cap, cur, rfl, hg, hh, hc, hm, hs, ht⟩
  · obtain rfl := List.length_eq_zero_iff.1 h0
    exact ⟨none, 0, rfl, fun i x hi => (by simp at hi), rfl, by simp, by unfold maxLen; omega⟩
  · have h' : w.ownsRow base 63 2 (.slice (some ⟨g, 0, none⟩) l.length cap) l.length (pv l) := h
    refine ⟨_, cap, rfl, fun i x hi => ?_, rfl, hc, hm⟩
    have hlt := (List.getElem?_eq_some_iff.1 hi).1
    obtain ⟨q1, q2⟩ := pv_get l i x hi
    refine ⟨g, 0, rfl, (Array.getElem?_eq_some_iff.1 hh).1, ?_, ?_⟩
    · rw [Nat.zero_add, h'.cellAt (i * 2) (by omega)]; exact q1
    · rw [Nat.zero_add, h'.cellAt (i * 2 + 1) (by omega)]; exact q2

/-- The document's locks: its block, its two rows. -/
structure RlA where
  b : Nat
  vH : Value
  vW : Value
def RlA.all (r : RlA) : List Nat := r.b :: (r.vH.ownBlock.toList ++ r.vW.ownBlock.toList)
structure RlS (w : World) (r : RlA) (C : Int) (hs ws : List (Int × Int)) : Prop where
  head : Holds w r.b #[.int .i64 C, r.vH, r.vW] 30
  has : w.ownsRow (r.b + 1) 63 2 r.vH hs.length (pv hs)
  wants : w.ownsRow (r.b + 1) 63 2 r.vW ws.length (pv ws)
  ne : ∀ k, r.vH.ownBlock = some k → r.vW.ownBlock ≠ some k
theorem RlS.gr {w w' : World} {r : RlA} {C : Int} {hs ws : List (Int × Int)} {bs : List Nat} (h : RlS w r C hs ws) (g : Gr bs w w') (hn : ∀ b ∈ r.all, b ∉ bs) : RlS w' r C hs ws :=
  ⟨h.head.gr g (hn _ (by simp [RlA.all])), own_gr h.has g (fun b hb => hn b (by simp [RlA.all, hb])), own_gr h.wants g (fun b hb => hn b (by simp [RlA.all, hb])), h.ne⟩
theorem RlS.gr0 {w w' : World} {r : RlA} {C : Int} {hs ws : List (Int × Int)} (h : RlS w r C hs ws) (g : Gr [] w w') : RlS w' r C hs ws := h.gr g (by simp)
theorem RlS.lt {w : World} {r : RlA} {C : Int} {hs ws : List (Int × Int)} (h : RlS w r C hs ws) : ∀ b ∈ r.all, b < w.heap.size := by
  intro b hb
  simp only [RlA.all, List.mem_cons, List.mem_append, Option.mem_toList] at hb
  rcases hb with rfl | hb | hb
  · exact h.head.lt
  · exact (h.has.lt b hb).2
  · exact (h.wants.lt b hb).2
theorem RlS.to {w : World} {r : RlA} {C : Int} {hs ws : List (Int × Int)} (h : RlS w r C hs ws) : ∃ aoH capH aoW capW, r.vH = .slice aoH hs.length capH ∧ r.vW = .slice aoW ws.length capW ∧ RlIs w r.b C aoH capH hs aoW capW ws := by
  obtain ⟨aoH, capH, e1, h1, -, l1, m1⟩ := own_rdp h.has
  obtain ⟨aoW, capW, e2, h2, -, l2, m2⟩ := own_rdp h.wants
  exact ⟨aoH, capH, aoW, capW, e1, e2, by have := h.head; rw [e1, e2] at this; exact this, h1, h2, ⟨l1, m1⟩, ⟨l2, m2⟩⟩
theorem own_slz {w : World} {base n : Nat} {v : Value} {l : List Int} (h : w.ownsRow base 3 1 v n (zv l)) : SlZ w v l := by
  have hn : n = l.length := by have := h.1; simp [zv] at this; omega
  subst hn
  obtain ⟨ao, cap, hv, hr, -⟩ := own_rd h
  rcases h.2 with ⟨q, h0⟩ | ⟨g, cap', cur, q, hg, hh, hc, hm, hs, ht⟩
  · rw [hv] at q
    injection q with q1 q2 q3
    exact ⟨ao, cap, hv, hr, by omega, by rw [q3]; unfold maxLen; omega, fun _ => q3⟩
  · rw [hv] at q
    injection q with q1 q2 q3
    exact ⟨ao, cap, hv, hr, by omega, by omega, fun e => by rw [e] at q1; cases q1⟩
section
variable {w : World} {r : RlA} {C : Int} {hs ws : List (Int × Int)}
theorem had_at (c : Int) (h : RlS w r C hs ws) (hl : hs.length ≤ 1000) :
    Calls Try.prog 16 #[.pointer (some ⟨r.b, 0, none⟩), .int .i64 c] w fun e w' => ∃ v, e = .returned v ∧ SlZ w' v (ofP hs c) ∧ Gr [] w w' ∧ ∀ k, v.ownBlock = some k → w.heap.size ≤ k := by
  obtain ⟨aoH, capH, aoW, capW, e1, e2, hi⟩ := h.to
  have c1 := hi.head.cell 1
  have HO := Lib.hid (of_at aoH hs capH c w hi.has hl hi.lh.1)
  obtain ⟨N, hN⟩ : ∃ N, N = hs.length := ⟨_, rfl⟩
  rw [← hN] at c1 HO
  clear h hi e1 e2 hN hl
  go_enter Try.func16, Try.ntmps16
  go_wp2_with (go_at_call 30; refine HO.out.mono ?_; rintro e w' ⟨v, rfl, hv, hg⟩)
  have HV := Lib.hid (And.intro (own_slz hv) (fun k hk => (hv.lt k hk).1))
  have HG := Lib.hid hg
  clear hv hg
  go_wp2_with fail
  go_ret
  exact ⟨v, rfl, HV.out.1, HG.out, HV.out.2⟩
theorem wanted_at (c : Int) (h : RlS w r C hs ws) (hl : ws.length ≤ 1000) :
    Calls Try.prog 24 #[.pointer (some ⟨r.b, 0, none⟩), .int .i64 c] w fun e w' => ∃ v, e = .returned v ∧ SlZ w' v (ofP ws c) ∧ Gr [] w w' ∧ ∀ k, v.ownBlock = some k → w.heap.size ≤ k := by
  obtain ⟨aoH, capH, aoW, capW, e1, e2, hi⟩ := h.to
  have c2 := hi.head.cell 2
  have HO := Lib.hid (of_at aoW ws capW c w hi.wants hl hi.lw.1)
  obtain ⟨N, hN⟩ : ∃ N, N = ws.length := ⟨_, rfl⟩
  rw [← hN] at c2 HO
  clear h hi e1 e2 hN hl
  go_enter Try.func24, Try.ntmps24
  go_wp2_with (go_at_call 30; refine HO.out.mono ?_; rintro e w' ⟨v, rfl, hv, hg⟩)
  have HV := Lib.hid (And.intro (own_slz hv) (fun k hk => (hv.lt k hk).1))
  have HG := Lib.hid hg
  clear hv hg
  go_wp2_with fail
  go_ret
  exact ⟨v, rfl, HV.out.1, HG.out, HV.out.2⟩
theorem rbad_at (c : Int) (h : RlS w r C hs ws) :
    Calls Try.prog 23 #[.pointer (some ⟨r.b, 0, none⟩), .int .i64 c] w fun e w' => e = .returned (.bool (decide (c < 0 ∨ C ≤ c))) ∧ w' = w := by
  obtain ⟨aoH, capH, aoW, capW, e1, e2, hi⟩ := h.to
  exact bad_at _ _ _ _ _ _ _ _ _ _ hi
theorem rowner_at (x : Int) (h : RlS w r C hs ws) :
    Calls Try.prog 28 #[.pointer (some ⟨r.b, 0, none⟩), .int .i64 x] w fun e w' => e = .returned (.int .i64 (ownP hs x)) ∧ w' = w := by
  obtain ⟨aoH, capH, aoW, capW, e1, e2, hi⟩ := h.to
  exact owner_at _ _ _ _ _ _ _ _ _ _ hi
theorem SlZ.first {w : World} {v : Value} {x : Int} {l : List Int} (h : SlZ w v (x :: l)) : ∃ k o cap, v = .slice (some ⟨k, o, none⟩) (l.length + 1) cap ∧ k < w.heap.size ∧ w.cell? ⟨k, o, none⟩ = some (.int .i64 x) ∧ l.length + 1 ≤ cap ∧ cap ≤ maxLen := by
  obtain ⟨ao, cap, h1, h2, h3, h4, h5⟩ := h
  obtain ⟨k, o, q1, q2, q3⟩ := h2 0 x rfl
  subst q1
  exact ⟨k, o, cap, by rw [h1]; simp, q2, by simpa using q3, by simpa using h3, h4⟩
set_option maxRecDepth 100000 in
set_option maxHeartbeats 4000000 in
theorem rwaits_at (c : Int) (h : RlS w r C hs ws) (hl : ws.length ≤ 1000) :
    Calls Try.prog 18 #[.pointer (some ⟨r.b, 0, none⟩), .int .i64 c] w fun e w' => e = .returned (.int .i64 (match ofP ws c with | [] => -1 | x :: _ => ownP hs x)) ∧ Gr [] w w' := by
  have HW := Lib.hid (wanted_at c h hl)
  have H := Lib.hid h
  clear h
  cases q : ofP ws c with
  | nil =>
    rw [q] at HW
    clear q
    go_enter Try.func18, Try.ntmps18
    go_wp2_with (go_at_call 24; refine HW.out.mono ?_; rintro e w' ⟨v, rfl, ⟨ao, cap, hv, -⟩, hg, -⟩; obtain rfl : v = .slice ao 0 cap := hv)
    have HG := Lib.hid hg
    clear hg
    go_wp2_with fail
    go_ret
    exact ⟨rfl, HG.out⟩
  | cons x l =>
    rw [q] at HW
    clear q
    simp only
    obtain ⟨z, hz⟩ : ∃ z, z = ownP hs x := ⟨_, rfl⟩
    rw [← hz]
    have HZ := Lib.hid (show ∀ W, RlS W r C hs ws → Calls Try.prog 28 #[.pointer (some ⟨r.b, 0, none⟩), .int .i64 x] W fun e w' => e = .returned (.int .i64 z) ∧ w' = W from fun W hW => by rw [hz]; exact rowner_at x hW)
    clear hz
    go_enter Try.func18, Try.ntmps18
    go_wp2_with fail
    go_at_call 24
    refine HW.out.mono ?_
    rintro e w' ⟨v, rfl, hv, hg, -⟩
    have HG := Lib.hid hg
    obtain ⟨k, o, cap, rfl, hk, ck, hc1, hc2⟩ := hv.first
    unfold maxLen at hc2
    obtain ⟨L, hL⟩ : ∃ L, L = l.length + 1 := ⟨_, rfl⟩
    rw [← hL]
    have i0 : (((L : Nat) : Int) == 0) = false := by rw [beq_eq_false_iff_ne]; omega
    have i1 : (0 : Int) < (L : Int) := by omega
    have i3 : 0 < L := by omega
    have i2 : (L == 0) = false := by rw [beq_eq_false_iff_ne]; omega
    clear hv hg hk hL hc1 hc2
    go_wp2_with (go_at_call 28; refine (HZ.out _ (H.out.gr0 HG.out)).mono ?_; rintro e w' ⟨rfl, hw⟩; rw [hw])
    go_ret
    exact ⟨rfl, HG.out⟩
end
end Go.Proofs.Ytlafmdpcabgcdaa
