/-
  Layer 24: the two sides of LockPlays, each call for every client and every state.
-/
import Derived.Test.YtlafmdpcabgcdaaLlA
import Derived.Test.YtlafmdpcabgcdaaLkS
namespace Go.Proofs.Ytlafmdpcabgcdaa
open Go.RowKit

def riseOf (xs : List Int) : List Int := Go.Lib.compact (srt xs)
theorem riseOf_rise (xs : List Int) : Rise (riseOf xs) := (compact_facts (srt_sorted xs)).1
theorem riseOf_mem (xs : List Int) (z : Int) : z ∈ riseOf xs ↔ z ∈ xs := ((compact_facts (srt_sorted xs)).2 z).trans (srt_mem xs z)
def askF (n : Nat) (S : LkS) (c : Int) (xs : List Int) : Prop := (0 ≤ c ∧ c < n) ∧ S.W c.toNat = [] ∧ mayH S c.toNat xs
open Classical in
noncomputable def askE (n : Nat) (S : LkS) (c : Int) (xs : List Int) : Int := if 0 ≤ c ∧ c < n then (if askF n S c xs then 0 else 8) else 2
open Classical in
noncomputable def askS (n : Nat) (S : LkS) (c : Int) (xs : List Int) : LkS := if askF n S c xs then askL S c.toNat (riseOf xs) else S
def inC (n : Nat) (c : Int) : Bool := decide (0 ≤ c ∧ c < n)
def stepS (n : Nat) (S : LkS) (c : Int) : LkS := if 0 ≤ c ∧ c < n then stepL S c.toNat else S
def dropS (n : Nat) (S : LkS) (c : Int) : LkS := if 0 ≤ c ∧ c < n then dropL S c.toNat else S
def stepB (n : Nat) (S : LkS) (c : Int) : Bool := if 0 ≤ c ∧ c < n then decide ((stepL S c.toNat).W c.toNat = []) else false
def okE (n : Nat) (c : Int) : Int := if 0 ≤ c ∧ c < n then 0 else 2
section
variable {bs av : List Nat} {n m : Nat} {w wr w' : World} {a : LkA} {S : LkS}
theorem chk_out {c : Int} (h : ¬ (0 ≤ c ∧ c < n)) : chkE n c = 2 := by unfold chkE; rw [if_neg h]
theorem LR.more (h : LR bs av n w wr a m S) (k : Nat) : LR bs av n w wr a (m + k) S := by
  obtain ⟨vs, hi, hv⟩ := h.is
  exact ⟨⟨vs, ⟨hi.head, hi.map.mono (by omega), hi.row, hi.each, hi.nd, hi.ok, hi.hi, hi.wf⟩, hv⟩, h.lav, h.wf, h.gr, h.new⟩
theorem pask (h : LR bs av n w wr a m S) (hm : m ≤ 100000) (c : Int) {v : Value} {xs : List Int} (hz : SlZ wr v xs) (hx6 : xs.length ≤ 1000) (hwx : ∀ x ∈ xs, WfZ x) :
    Calls Try.prog 8 #[.pointer (some ⟨a.b, 0, none⟩), .int .i64 c, v] wr fun e w' => e = .returned (.int .i64 (askE n S c xs)) ∧ LR bs av n w w' a m (askS n S c xs) ∧ Gr a.all wr w' := by
  obtain ⟨vs, hi, hv⟩ := h.is
  by_cases hc : 0 ≤ c ∧ c < n
  · obtain ⟨k, rfl⟩ : ∃ k : Nat, c = (k : Int) := ⟨c.toNat, by omega⟩
    have hk : k < n := by omega
    by_cases hf : askF n S (k : Int) xs
    · have e1 : askE n S k xs = 0 := by unfold askE; rw [if_pos hc, if_pos hf]
      have e2 : askS n S k xs = askL S k (riseOf xs) := by unfold askS; rw [if_pos hf]; simp
      rw [e1, e2]
      obtain ⟨_, hS, hy⟩ := hf
      rw [Int.toNat_natCast] at hS hy
      refine (lr_ask h hk hm hz hx6 hS hy hwx).mono ?_
      rintro e w' ⟨l, rfl, hr, hm2, h2, g2⟩
      obtain rfl : l = riseOf xs := hr.uniq (riseOf_rise xs) fun z => (hm2 z).trans (riseOf_mem xs z).symm
      exact ⟨rfl, h2, g2⟩
    · have e1 : askE n S k xs = 8 := by unfold askE; rw [if_pos hc, if_neg hf]
      have e2 : askS n S k xs = S := by unfold askS; rw [if_neg hf]
      rw [e1, e2]
      cases e : S.W k with
      | cons x r =>
        refine (ask_busy a n m vs S k v xs wr hi hk h.wf hm hz hx6 x r e).mono ?_
        rintro e w' ⟨rfl, g⟩
        exact ⟨rfl, h.gr0 g, g.of0⟩
      | nil =>
        refine (ask_no a n m vs S k v xs wr hi hk h.wf hm hz hx6 e (fun hy => hf ⟨hc, by rw [Int.toNat_natCast]; exact e, by rw [Int.toNat_natCast]; exact hy⟩)).mono ?_
        rintro e w' ⟨rfl, g⟩
        exact ⟨rfl, h.gr0 g, g.of0⟩
  · have e1 : askE n S c xs = 2 := by unfold askE; rw [if_neg hc]
    have e2 : askS n S c xs = S := by unfold askS; rw [if_neg (fun q => hc q.1)]
    rw [e1, e2]
    refine (ask_out a n m vs S c v wr hi (chk_out hc)).mono ?_
    rintro e w' ⟨rfl, rfl⟩
    exact ⟨rfl, h, Gr.refl _ _⟩
theorem pstep (h : LR bs av n w wr a m S) (hm : m < 100000) (c : Int) :
    Calls Try.prog 12 #[.pointer (some ⟨a.b, 0, none⟩), .int .i64 c] wr fun e w' => e = .returned (.tuple #[.bool (stepB n S c), .int .i64 (okE n c)]) ∧ LR bs av n w w' a (m + 1) (stepS n S c) ∧ Gr a.all wr w' := by
  by_cases hc : 0 ≤ c ∧ c < n
  · obtain ⟨k, rfl⟩ : ∃ k : Nat, c = (k : Int) := ⟨c.toNat, by omega⟩
    have hk : k < n := by omega
    unfold stepB okE stepS
    rw [if_pos hc, if_pos hc, if_pos hc, Int.toNat_natCast]
    exact lr_step h hk hm
  · obtain ⟨vs, hi, hv⟩ := h.is
    unfold stepB okE stepS
    rw [if_neg hc, if_neg hc, if_neg hc]
    refine (step_out a n m vs S c wr hi (chk_out hc)).mono ?_
    rintro e w' ⟨rfl, rfl⟩
    exact ⟨rfl, h.more 1, Gr.refl _ _⟩
theorem pdrop (h : LR bs av n w wr a m S) (c : Int) :
    Calls Try.prog 10 #[.pointer (some ⟨a.b, 0, none⟩), .int .i64 c] wr fun e w' => e = .returned (.int .i64 (okE n c)) ∧ LR bs av n w w' a m (dropS n S c) ∧ Gr a.all wr w' := by
  by_cases hc : 0 ≤ c ∧ c < n
  · obtain ⟨k, rfl⟩ : ∃ k : Nat, c = (k : Int) := ⟨c.toNat, by omega⟩
    have hk : k < n := by omega
    unfold okE dropS
    rw [if_pos hc, if_pos hc, Int.toNat_natCast]
    exact lr_drop h hk
  · obtain ⟨vs, hi, hv⟩ := h.is
    unfold okE dropS
    rw [if_neg hc, if_neg hc]
    refine (drop_out a n m vs S c wr hi (chk_out hc)).mono ?_
    rintro e w' ⟨rfl, g⟩
    exact ⟨rfl, h.gr0 g, g.of0⟩
end
/-- The document's side: the same state, in k acts. -/
structure RX (w : World) (r : RlA) (n k : Nat) (S : LkS) : Prop where
  is : ∃ hs ws, RlS w r n hs ws ∧ LkRel n S hs ws ∧ hs.length ≤ k ∧ ws.length ≤ 6 * k
section
variable {n k : Nat} {w w' : World} {r : RlA} {S : LkS}
theorem RX.gr {cs : List Nat} (h : RX w r n k S) (g : Gr cs w w') (hn : ∀ b ∈ r.all, b ∉ cs) : RX w' r n k S := by
  obtain ⟨hs, ws, h1, h2, h3, h4⟩ := h.is
  exact ⟨hs, ws, h1.gr g hn, h2, h3, h4⟩
theorem RX.gr0 (h : RX w r n k S) (g : Gr [] w w') : RX w' r n k S := h.gr g (by simp)
theorem RX.lt (h : RX w r n k S) : ∀ b ∈ r.all, b < w.heap.size := by
  obtain ⟨hs, ws, h1, h2, h3, h4⟩ := h.is
  exact h1.lt
theorem RX.more (h : RX w r n k S) (j : Nat) : RX w r n (k + j) S := by
  obtain ⟨hs, ws, h1, h2, h3, h4⟩ := h.is
  exact ⟨hs, ws, h1, h2, by omega, by omega⟩
theorem may_iff {hs ws : List (Int × Int)} (h : LkRel n S hs ws) (c : Nat) (xs : List Int) : mayAsk (ofP hs c) xs ↔ mayH S c xs := by
  constructor
  · intro q x hx y hy
    exact q x hx y ((ofP_mem hs c y).2 ((h.has y c).1 hy))
  · intro q x hx y hy
    exact q x hx y ((h.has y c).2 ((ofP_mem hs c y).1 hy))
theorem rask (h : RX w r n k S) (hk : k ≤ 100) (c : Int) {v : Value} {xs : List Int} (hz : SlZ w v xs) (hx6 : xs.length ≤ 6) (hva : xs ≠ [] → ∀ b, v.ownBlock = some b → b ∉ r.all) :
    Calls Try.prog 9 #[.pointer (some ⟨r.b, 0, none⟩), .int .i64 c, v] w fun e w' => ∃ r', e = .returned (.int .i64 (askE n S c xs)) ∧ RX w' r' n (k + 1) (askS n S c xs) ∧ Gr r.all w w' ∧ NwR w r r' := by
  obtain ⟨hs, ws, h1, h2, h3, h4⟩ := h.is
  by_cases hc : 0 ≤ c ∧ c < n
  · obtain ⟨d, rfl⟩ : ∃ d : Nat, c = (d : Int) := ⟨c.toNat, by omega⟩
    have hd : d < n := by omega
    have hW := h2.wants d hd
    cases e : S.W d with
    | cons x l =>
      have hf : ¬ askF n S (d : Int) xs := fun q => by have := q.2.1; rw [Int.toNat_natCast, e] at this; cases this
      have e1 : askE n S d xs = 8 := by unfold askE; rw [if_pos hc, if_neg hf]
      have e2 : askS n S d xs = S := by unfold askS; rw [if_neg hf]
      rw [e1, e2]
      rw [e] at hW
      refine (rask_held d v h1 hc (by omega) (by omega) x l hW.symm).mono ?_
      rintro e w' ⟨rfl, g⟩
      exact ⟨r, rfl, (h.gr0 g).more 1, g.of0, NwR.refl _ _⟩
    | nil =>
      rw [e] at hW
      refine (rask_at d v xs h1 hc (by omega) (by omega) hW.symm hz hva).mono ?_
      rintro e' w' (⟨hno, rfl, g⟩ | ⟨hyes, r', rfl, hR, g, hn⟩)
      · have hf : ¬ askF n S (d : Int) xs := fun q => hno ((may_iff h2 d xs).2 (by have := q.2.2; rwa [Int.toNat_natCast] at this))
        have e1 : askE n S d xs = 8 := by unfold askE; rw [if_pos hc, if_neg hf]
        have e2 : askS n S d xs = S := by unfold askS; rw [if_neg hf]
        rw [e1, e2]
        exact ⟨r, rfl, (h.gr0 g).more 1, g.of0, NwR.refl _ _⟩
      · have hm := (may_iff h2 d xs).1 hyes
        have hf : askF n S (d : Int) xs := ⟨hc, by rw [Int.toNat_natCast]; exact e, by rw [Int.toNat_natCast]; exact hm⟩
        have e1 : askE n S d xs = 0 := by unfold askE; rw [if_pos hc, if_pos hf]
        have e2 : askS n S d xs = askL S d (riseOf xs) := by unfold askS; rw [if_pos hf]; simp
        rw [e1, e2]
        refine ⟨r', rfl, ⟨hs, _, hR, h2.ask hd e (riseOf_rise xs) (riseOf_mem xs) (fun x y hx hy => hm y ((riseOf_mem xs y).1 hy) x hx), by omega, ?_⟩, g, hn⟩
        rw [List.length_append, List.length_map]
        omega
  · have e1 : askE n S c xs = 2 := by unfold askE; rw [if_neg hc]
    have e2 : askS n S c xs = S := by unfold askS; rw [if_neg (fun q => hc q.1)]
    rw [e1, e2]
    refine (rask_out c v h1 (by omega)).mono ?_
    rintro e w' ⟨rfl, rfl⟩
    exact ⟨r, rfl, h.more 1, Gr.refl _ _, NwR.refl _ _⟩
theorem rstep (h : RX w r n k S) (hk : k ≤ 100) (c : Int) :
    Calls Try.prog 13 #[.pointer (some ⟨r.b, 0, none⟩), .int .i64 c] w fun e w' => ∃ r', e = .returned (.tuple #[.bool (stepB n S c), .int .i64 (okE n c)]) ∧ RX w' r' n (k + 1) (stepS n S c) ∧ Gr r.all w w' ∧ NwR w r r' := by
  obtain ⟨hs, ws, h1, h2, h3, h4⟩ := h.is
  unfold stepB okE stepS
  by_cases hc : 0 ≤ c ∧ c < n
  · rw [if_pos hc, if_pos hc, if_pos hc]
    obtain ⟨d, rfl⟩ : ∃ d : Nat, c = (d : Int) := ⟨c.toNat, by omega⟩
    rw [Int.toNat_natCast]
    have hd : d < n := by omega
    have hW := h2.wants d hd
    cases e : S.W d with
    | nil =>
      have hs' : stepL S d = S := by unfold stepL; rw [e]
      rw [hs', e]
      rw [e] at hW
      refine (rstep_none d h1 hc (by omega) hW.symm).mono ?_
      rintro e w' ⟨rfl, g⟩
      exact ⟨r, by simp, (h.gr0 g).more 1, g.of0, NwR.refl _ _⟩
    | cons x l =>
      rw [e] at hW
      have ho := h2.owner x
      cases q : S.H x with
      | some o =>
        rw [q] at ho
        have hs' : stepL S d = S := by unfold stepL; rw [e]; simp [q]
        rw [hs', e]
        refine (rstep_held d x l h1 hc (by omega) hW.symm (by rw [ho]; simp)).mono ?_
        rintro e w' ⟨rfl, g⟩
        exact ⟨r, by simp, (h.gr0 g).more 1, g.of0, NwR.refl _ _⟩
      | none =>
        rw [q] at ho
        have hs' : (stepL S d).W d = l := by unfold stepL; rw [e]; simp only; rw [if_pos q]; exact setW_same _ _ _
        rw [hs']
        refine (rstep_take d x l h1 hc (by omega) (by omega) hW.symm ho).mono ?_
        rintro e' w' ⟨r', rfl, hR, g, hn⟩
        refine ⟨r', rfl, ⟨_, _, hR, h2.take hd e q, ?_, ?_⟩, g, hn⟩
        · rw [List.length_append]; simp; omega
        · have := withoutP_len ws d x false; omega
  · rw [if_neg hc, if_neg hc, if_neg hc]
    refine (rstep_out c h1 (by omega)).mono ?_
    rintro e w' ⟨rfl, rfl⟩
    exact ⟨r, rfl, h.more 1, Gr.refl _ _, NwR.refl _ _⟩
theorem rdrop (h : RX w r n k S) (hk : k ≤ 100) (c : Int) :
    Calls Try.prog 11 #[.pointer (some ⟨r.b, 0, none⟩), .int .i64 c] w fun e w' => ∃ r', e = .returned (.int .i64 (okE n c)) ∧ RX w' r' n (k + 1) (dropS n S c) ∧ Gr r.all w w' ∧ NwR w r r' := by
  obtain ⟨hs, ws, h1, h2, h3, h4⟩ := h.is
  unfold okE dropS
  by_cases hc : 0 ≤ c ∧ c < n
  · rw [if_pos hc, if_pos hc]
    obtain ⟨d, rfl⟩ : ∃ d : Nat, c = (d : Int) := ⟨c.toNat, by omega⟩
    rw [Int.toNat_natCast]
    refine (rdrop_at d h1 hc (by omega) (by omega)).mono ?_
    rintro e' w' ⟨r', rfl, hR, g, hn⟩
    refine ⟨r', rfl, ⟨_, _, hR, h2.drop d, ?_, ?_⟩, g, hn⟩
    · have := withoutP_len hs d 0 true; omega
    · have := withoutP_len ws d 0 true; omega
  · rw [if_neg hc, if_neg hc]
    refine (rdrop_out c h1 (by omega)).mono ?_
    rintro e w' ⟨rfl, rfl⟩
    exact ⟨r, rfl, h.more 1, Gr.refl _ _, NwR.refl _ _⟩
/-- What a client has, in both. -/
theorem rhad (h : RX w r n k S) (hk : k ≤ 160) (c : Nat) : Calls Try.prog 16 #[.pointer (some ⟨r.b, 0, none⟩), .int .i64 c] w fun e w' => ∃ v l, e = .returned v ∧ SlZ w' v l ∧ Rise l ∧ (∀ z, z ∈ l ↔ S.H z = some c) ∧ Gr [] w w' := by
  obtain ⟨hs, ws, h1, h2, h3, h4⟩ := h.is
  refine (had_at c h1 (by omega)).mono ?_
  rintro e w' ⟨v, rfl, hz, g, -⟩
  exact ⟨v, _, rfl, hz, ofP_rise hs c, fun z => (ofP_mem hs c z).trans (h2.has z c).symm, g⟩
theorem rwaits (h : RX w r n k S) (hk : k ≤ 160) {c : Nat} (hc : c < n) : Calls Try.prog 18 #[.pointer (some ⟨r.b, 0, none⟩), .int .i64 c] w fun e w' => e = .returned (.int .i64 (waitZ S c)) ∧ Gr [] w w' := by
  obtain ⟨hs, ws, h1, h2, h3, h4⟩ := h.is
  rw [h2.waits hc]
  exact rwaits_at c h1 (by omega)
end
/-- The document's side has moved on: its blocks are others. -/
theorem LR.other {bs av av' : List Nat} {n m : Nat} {w wr w' : World} {a : LkA} {S : LkS} (h : LR bs av n w wr a m S) (g : Gr av wr w') (h1 : ∀ b ∈ a.all, b ∉ av) (h3 : ∀ b ∈ av, b ∈ bs ∨ w.heap.size ≤ b) (hn : ∀ b ∈ av', b ∈ av ∨ wr.heap.size ≤ b) (hl : ∀ b ∈ av', b < w'.heap.size) : LR bs av' n w w' a m S := by
  obtain ⟨vs, hi, hv⟩ := h.is
  exact ⟨⟨vs, hi.grA g h1 (fun d k hk => (hv d k hk).2), fun d k hk => ⟨Nat.lt_of_lt_of_le (hv d k hk).1 g.size, fun q => by
    rcases hn k q with p | p
    · exact (hv d k hk).2 p
    · have := (hv d k hk).1; omega⟩⟩, hl, h.wf, h.gr.nextN g h3, h.new⟩
end Go.Proofs.Ytlafmdpcabgcdaa
