/-
  Layer 24: locks in memory: who holds which, what each client still wants.
-/
import Derived.Test.YtlafmdpcabgcdaaLkP
import Derived.Test.YtlafmdpcabgcdaaMap
namespace Go.Proofs.Ytlafmdpcabgcdaa
open Go.RowKit

def clEnc (c : Nat) : DataW Unit := .lit (.int .i64 (c : Int))
def clR : Value → Option (DataW Unit × List MemPlace)
  | .int .i64 (.ofNat v) => some (clEnc v, [])
  | _ => none
theorem clR_inv (v : Value) (y : DataW Unit × List MemPlace) (h : clR v = some y) : ∃ a : Nat, v = .int .i64 (a : Int) ∧ y = (clEnc a, []) := by
  unfold clR at h
  split at h
  · rename_i n
    cases h
    exact ⟨n, rfl, rfl⟩
  · cases h
/-- The elements of a map from locks to clients. -/
noncomputable def clE : EltLaw Try.prog 3 Nat where
  val := fun c => .int .i64 (c : Int)
  enc := clEnc
  R := clR
  R_mk := fun _ => rfl
  R_inv := clR_inv
  enc_inj := by
    intro a b h
    unfold clEnc at h
    simp at h
    omega
  zero := 0
  zero_run := fun _ => by kernel_rfl

/-- The cells from an address on read as integers. -/
def RdI (w : World) (ao : Option Addr) (b : List Int) : Prop :=
  ∀ i x, b[i]? = some x → ∃ k o, ao = some ⟨k, o, none⟩ ∧ k < w.heap.size ∧ w.cell? ⟨k, o + i, none⟩ = some (.int .i64 x)
theorem RdI.gr {w w' : World} {ao : Option Addr} {b : List Int} {bs : List Nat} (h : RdI w ao b) (g : Gr bs w w') (hn : ∀ k o, ao = some ⟨k, o, none⟩ → k ∉ bs) : RdI w' ao b := fun i x hi => by
  obtain ⟨k, o, h1, h2, h3⟩ := h i x hi
  exact ⟨k, o, h1, Nat.lt_of_lt_of_le h2 g.size, (World.cell?_of_block (w := w) (g.block k h2 (hn k o h1))).trans h3⟩
theorem RdI.nil (w : World) (ao : Option Addr) : RdI w ao [] := fun i x hi => by simp at hi
theorem RdI.tail {w : World} {k o : Nat} {x : Int} {r : List Int} (h : RdI w (some ⟨k, o, none⟩) (x :: r)) : RdI w (some ⟨k, o + 1, none⟩) r := fun i y hi => by
  obtain ⟨k', o', h1, h2, h3⟩ := h (i + 1) y (by simpa using hi)
  cases h1
  exact ⟨k, o + 1, rfl, h2, by rw [show o + 1 + i = o + (i + 1) by omega]; exact h3⟩

/-- The blocks of a Locks: itself, its map, its row of lists. -/
structure LkA where
  b : Nat
  bm : Nat
  bw : Nat
def LkA.all (a : LkA) : List Nat := [a.b, a.bm, a.bw]
/-- A list of locks that a client wants, as a value. -/
def LkV (w : World) (a : LkA) (v : Value) (l : List Int) : Prop :=
  ∃ ao cap, v = .slice ao l.length cap ∧ RdI w ao l ∧ l.length ≤ cap ∧ cap ≤ maxLen ∧ (ao = none → cap = 0) ∧ ∀ k o, ao = some ⟨k, o, none⟩ → k ∉ a.all
/-- Locks in memory. -/
structure LkIs (w : World) (a : LkA) (n m : Nat) (vs : Nat → Value) (S : LkS) : Prop where
  head : Holds w a.b #[.map (some a.bm), .slice (some ⟨a.bw, 0, none⟩) n n] 55
  map : MapZ clE 3 w a.bm m S.H
  row : Holds w a.bw ((Array.range n).map vs) 32
  each : ∀ c, c < n → LkV w a (vs c) (S.W c)
  nd : a.all.Nodup
  ok : LkOk n S
  hi : 1 ≤ n ∧ n ≤ 8
  wf : ∀ c x, x ∈ S.W c → WfZ x
section
variable {w w' : World} {a : LkA} {n m : Nat} {vs : Nat → Value} {S : LkS}
theorem LkV.gr {v : Value} {l : List Int} {bs : List Nat} (h : LkV w a v l) (g : Gr bs w w') (hs : ∀ b ∈ bs, b ∈ a.all ∨ w.heap.size ≤ b) : LkV w' a v l := by
  obtain ⟨ao, cap, h1, h2, h3, h4, h5, h6⟩ := h
  refine ⟨ao, cap, h1, fun i x hi => ?_, h3, h4, h5, h6⟩
  obtain ⟨k, o, q1, q2, q3⟩ := h2 i x hi
  refine ⟨k, o, q1, Nat.lt_of_lt_of_le q2 g.size, (World.cell?_of_block (w := w) (g.block k q2 fun e => ?_)).trans q3⟩
  rcases hs k e with q | q
  · exact h6 k o q1 q
  · omega
theorem LkIs.gr0 (h : LkIs w a n m vs S) (g : Gr [] w w') : LkIs w' a n m vs S :=
  ⟨h.head.gr0 g, h.map.gr0 g, h.row.gr0 g, fun c hc => (h.each c hc).gr g (fun _ e => by cases e), h.nd, h.ok, h.hi, h.wf⟩
theorem LkIs.c0 (h : LkIs w a n m vs S) : w.cell? ⟨a.b, 0, none⟩ = some (.map (some a.bm)) := h.head.cell 0
theorem LkIs.c1 (h : LkIs w a n m vs S) : w.cell? ⟨a.b, 1, none⟩ = some (.slice (some ⟨a.bw, 0, none⟩) n n) := h.head.cell 1
theorem LkIs.at (h : LkIs w a n m vs S) {c : Nat} (hc : c < n) : w.cell? ⟨a.bw, c, none⟩ = some (vs c) := by
  rw [h.row.cell, Array.getElem?_map, Array.getElem?_range]
  simp [hc]
theorem LkIs.lt (h : LkIs w a n m vs S) : ∀ b ∈ a.all, b < w.heap.size := by
  intro b hb
  simp only [LkA.all, List.mem_cons, List.not_mem_nil, or_false] at hb
  rcases hb with rfl | rfl | rfl
  · exact h.head.lt
  · exact h.map.lt
  · exact h.row.lt
end

/-- The lists lie in blocks that they lay in before, or in new ones. -/
def NwV (w w' : World) (vs vs' : Nat → Value) : Prop := ∀ d k, (vs' d).ownBlock = some k → (vs d).ownBlock = some k ∨ (w.heap.size ≤ k ∧ k < w'.heap.size)
/-- Another block is written: no list lies in it. -/
theorem LkIs.grA {w w' : World} {a : LkA} {n m : Nat} {vs : Nat → Value} {S : LkS} {bs : List Nat} (h : LkIs w a n m vs S) (g : Gr bs w w') (h1 : ∀ b ∈ a.all, b ∉ bs) (h2 : ∀ d k, (vs d).ownBlock = some k → k ∉ bs) : LkIs w' a n m vs S :=
  ⟨h.head.gr g (h1 _ (by simp [LkA.all])), h.map.gr g (h1 _ (by simp [LkA.all])), h.row.gr g (h1 _ (by simp [LkA.all])), fun c hc => by
    obtain ⟨ao, cap, q1, q2, q3⟩ := h.each c hc
    exact ⟨ao, cap, q1, q2.gr g (fun k o e => h2 c k (by rw [q1, e]; rfl)), q3⟩, h.nd, h.ok, h.hi, h.wf⟩

end Go.Proofs.Ytlafmdpcabgcdaa
