/-
  Layer 24: the document's locks in memory: lists of pairs; bad, Owner.
-/
import Derived.Test.YtlafmdpcabgcdaaLkG
namespace Go.Proofs.Ytlafmdpcabgcdaa
open Go.RowKit

/-- Pairs of a client and a lock, read. -/
def RdP (w : World) (ao : Option Addr) (l : List (Int × Int)) : Prop :=
  ∀ i e, l[i]? = some e → ∃ k o, ao = some ⟨k, o, none⟩ ∧ k < w.heap.size ∧ w.cell? ⟨k, o + i * 2, none⟩ = some (.int .i64 e.1) ∧ w.cell? ⟨k, o + i * 2 + 1, none⟩ = some (.int .i64 e.2)
theorem RdP.gr {w w' : World} {ao : Option Addr} {l : List (Int × Int)} {bs : List Nat} (h : RdP w ao l) (g : Gr bs w w') (hn : ∀ k o, ao = some ⟨k, o, none⟩ → k ∉ bs) : RdP w' ao l := fun i x hi => by
  obtain ⟨k, o, h1, h2, h3, h4⟩ := h i x hi
  have hb := g.block k h2 (hn k o h1)
  exact ⟨k, o, h1, Nat.lt_of_lt_of_le h2 g.size, (World.cell?_of_block (w := w) (a := ⟨k, _, none⟩) hb).trans h3, (World.cell?_of_block (w := w) (a := ⟨k, _, none⟩) hb).trans h4⟩
/-- The document's locks: how many clients, who has, who wants. -/
structure RlIs (w : World) (b : Nat) (C : Int) (aoH : Option Addr) (capH : Nat) (hs : List (Int × Int)) (aoW : Option Addr) (capW : Nat) (ws : List (Int × Int)) : Prop where
  head : Holds w b #[.int .i64 C, .slice aoH hs.length capH, .slice aoW ws.length capW] 30
  has : RdP w aoH hs
  wants : RdP w aoW ws
  lh : hs.length ≤ capH ∧ capH ≤ maxLen
  lw : ws.length ≤ capW ∧ capW ≤ maxLen
theorem bad_at (b : Nat) (C c : Int) (aoH : Option Addr) (capH : Nat) (hs : List (Int × Int)) (aoW : Option Addr) (capW : Nat) (ws : List (Int × Int)) (w : World) (h : RlIs w b C aoH capH hs aoW capW ws) :
    Calls Try.prog 23 #[.pointer (some ⟨b, 0, none⟩), .int .i64 c] w fun e w' => e = .returned (.bool (decide (c < 0 ∨ C ≤ c))) ∧ w' = w := by
  have c0 := h.head.cell 0
  clear h
  by_cases h0 : c < 0
  · rw [decide_eq_true (Or.inl h0)]
    go_enter Try.func23, Try.ntmps23
    go_wp2
    go_ret
    exact ⟨rfl, rfl⟩
  · by_cases h1 : C ≤ c
    · rw [decide_eq_true (Or.inr h1)]
      go_enter Try.func23, Try.ntmps23
      go_wp2
      go_ret
      exact ⟨rfl, rfl⟩
    · rw [decide_eq_false (by omega)]
      go_enter Try.func23, Try.ntmps23
      go_wp2
      go_ret
      exact ⟨rfl, rfl⟩
/-- Who has a lock, by the list; -1. -/
def ownP : List (Int × Int) → Int → Int
  | [], _ => -1
  | e :: r, x => if e.2 = x then e.1 else ownP r x
theorem ownP_hit {l : List (Int × Int)} {k : Nat} {e : Int × Int} {x : Int} (hk : l[k]? = some e) (hn : ∀ j d, j < k → l[j]? = some d → d.2 ≠ x) (he : e.2 = x) : ownP l x = e.1 := by
  induction l generalizing k with
  | nil => simp at hk
  | cons d r ih =>
    cases k with
    | zero => simp at hk; subst hk; simp [ownP, he]
    | succ k =>
      have hd : d.2 ≠ x := hn 0 d (by omega) rfl
      rw [ownP, if_neg hd]
      exact ih (k := k) (by simpa using hk) (fun j f hj hf => hn (j + 1) f (by omega) (by simpa using hf))
theorem ownP_none {l : List (Int × Int)} {x : Int} (hn : ∀ (j : Nat) (d : Int × Int), l[j]? = some d → d.2 ≠ x) : ownP l x = -1 := by
  induction l with
  | nil => rfl
  | cons d r ih =>
    rw [ownP, if_neg (hn 0 d rfl)]
    exact ih (fun j f hf => hn (j + 1) f (by simpa using hf))
set_option maxRecDepth 100000 in
set_option maxHeartbeats 4000000 in
theorem owner_at (b : Nat) (C x : Int) (aoH : Option Addr) (capH : Nat) (hs : List (Int × Int)) (aoW : Option Addr) (capW : Nat) (ws : List (Int × Int)) (w : World) (h : RlIs w b C aoH capH hs aoW capW ws) :
    Calls Try.prog 28 #[.pointer (some ⟨b, 0, none⟩), .int .i64 x] w fun e w' => e = .returned (.int .i64 (ownP hs x)) ∧ w' = w := by
  have c1 := h.head.cell 1
  have HR := Lib.hid h.has
  have hlen := h.lh
  unfold maxLen at hlen
  obtain ⟨N, hN⟩ : ∃ N, N = hs.length := ⟨_, rfl⟩
  rw [← hN] at c1 hlen
  have HN := Lib.hid hN
  clear h hN
  obtain ⟨q, hq⟩ : ∃ q, q = ownP hs x := ⟨_, rfl⟩
  rw [← hq]
  have HQ := Lib.hid hq
  clear hq
  go_enter Try.func28, Try.ntmps28
  go_wp2
  go_loopw [5] (fun i wr => ∃ k : Nat, k ≤ N ∧ i = .int .i64 k ∧ wr = w ∧ ∀ j d, j < k → hs[j]? = some d → d.2 ≠ x) (fun i _ => N - (intOf i).toNat)
  case atStart => exact ⟨0, by omega, rfl, rfl, fun j d hj => absurd hj (by omega)⟩
  case round =>
    obtain ⟨k, hk, rfl, rfl, hall⟩ := hrel
    have HA := Lib.hid hall
    clear hall
    by_cases hlt : k < N
    · have ik : (k : Int) < (N : Int) := by omega
      obtain ⟨e, he⟩ : ∃ e, hs[k]? = some e := ⟨_, List.getElem?_eq_getElem (by have := HN.out; omega)⟩
      have HE := Lib.hid he
      obtain ⟨b1, o1, rfl, hb1, z1, z2⟩ := HR.out k e he
      clear he
      by_cases hx : e.2 = x
      · have f1 : (e.2 == x) = true := by simpa using hx
        have HF := Lib.hid (show q = e.1 by rw [HQ.out]; exact ownP_hit HE.out HA.out hx)
        clear hx
        go_wp2
        go_ret
        exact ⟨by rw [HF.out]; rfl, rfl⟩
      · have f1 : (e.2 == x) = false := by simpa using hx
        have HX := Lib.hid hx
        clear hx
        go_wp2
        go_roundw
        case rel => exact ⟨k + 1, by omega, by go_num, by first | rfl | trivial, fun j d hj hd => by
          by_cases hjk : j = k
          · subst hjk; rw [HE.out] at hd; cases hd; exact HX.out
          · exact HA.out j d (by omega) hd⟩
        case measure => simp [intOf]; omega
    · obtain rfl : k = N := by omega
      have ik : ¬ ((k : Int) < (k : Int)) := by omega
      have HF := Lib.hid (show q = -1 by rw [HQ.out]; exact ownP_none (fun j d hd => HA.out j d (by have := (List.getElem?_eq_some_iff.1 hd).1; have := HN.out; omega) hd))
      go_wp2
      go_ret
      exact ⟨by rw [HF.out]; rfl, rfl⟩

end Go.Proofs.Ytlafmdpcabgcdaa
