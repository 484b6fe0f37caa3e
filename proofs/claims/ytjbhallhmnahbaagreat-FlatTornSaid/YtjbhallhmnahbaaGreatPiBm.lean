/-
  PiBm: PmRc, PmRd, PmRe, PmRf, PmRh, LnK, LnL, SumP, Sum, LawE, SpBb, SpV, FrameN, PmRi, SpBc, SpBf.
-/
import Derived.Test.YtjbhallhmnahbaaGreatPiBl
import Derived.Test.YtjbhallhmnahbaaGreatPiAg
import Derived.Test.YtjbhallhmnahbaaGreatPiAq
import Derived.Test.YtjbhallhmnahbaaGreatPiAn
import Derived.Test.YtjbhallhmnahbaaGreatPiAa
import Derived.Test.YtjbhallhmnahbaaGreatPiAb
import Derived.Test.YtjbhallhmnahbaaGreatPiAj
import Derived.Test.YtjbhallhmnahbaaGreatPiAy
import Derived.Test.YtjbhallhmnahbaaGreatPiAs
import Derived.Test.YtjbhallhmnahbaaGreatPiAo
import Derived.Deep.QuietTactic
import Derived.BigQuiet
import Derived.Deep.RegionHeld3
import Derived.Lib.IndexBytes
import Derived.Deep.Grids

set_option linter.unusedVariables false

/-
  The reference of layer 3: Flush, last, Fence.
-/
namespace Go.Proofs.YtjbhallhmnahbaaGreat
open Go.RowKit

/-! ### Flush: the words of line l below j done -/
def flW (ws : Nat → WordS) (l j : Nat) : Nat → WordS := fun i => if 8 * l ≤ i ∧ i < 8 * l + j then { m := (ws i).m, t := (ws i).t, v := (ws i).v, f := (ws i).t } else ws i
def flushR (R : RefC) (z : Int) : RefC := if begE R (decide (0 ≤ z ∧ z < R.n)) = 0 then { litR R with ws := flW R.ws z.toNat 8 } else begR R (decide (0 ≤ z ∧ z < R.n))

/-! ### last: the words below k done -/
def laW (R : RefC) (S : Nat → Bool) (k : Nat) : Nat → WordS := fun i => if i < k ∧ S i = true then { m := if R.bad (i / 8) = true then (R.ws i).m else (R.ws i).v, t := false, v := (R.ws i).v, f := (R.ws i).f } else R.ws i
def laT (R : RefC) (S : Nat → Bool) (l : Nat) : Nat → Int := fun i => if i < l ∧ linesOf S i = true then R.wear i + 1 else R.wear i
theorem laW_at (R : RefC) (S : Nat → Bool) (k : Nat) : laW R S k k = R.ws k := by unfold laW; rw [if_neg (by omega)]
theorem laW_next (R : RefC) (S : Nat → Bool) (k : Nat) (h : S k = true) (x : WordS) (hx : x = { m := if R.bad (k / 8) = true then (R.ws k).m else (R.ws k).v, t := false, v := (R.ws k).v, f := (R.ws k).f }) : updW (laW R S k) k x = laW R S (k + 1) := by
  subst hx
  funext i
  unfold updW
  by_cases c : i = k
  · subst c
    rw [if_pos (rfl : i = i)]
    unfold laW
    rw [if_pos (show i < i + 1 ∧ S i = true from ⟨by omega, h⟩)]
  · rw [if_neg c]
    unfold laW
    by_cases q : i < k ∧ S i = true
    · rw [if_pos q, if_pos (show i < k + 1 ∧ S i = true from ⟨by omega, q.2⟩)]
    · rw [if_neg q, if_neg (show ¬ (i < k + 1 ∧ S i = true) from fun e => q ⟨by omega, e.2⟩)]
def lastR (R : RefC) (S : Nat → Bool) : RefC := { R with ws := laW R S (8 * R.n), wear := laT R S R.n }
structure Las (w wr : World) (r : RefA) (R : RefC) (S : Nat → Bool) (bc k l : Nat) : Prop where
  row : RefRow wr r { R with ws := laW R S k, wear := laT R S l }
  ch : Holds wr bc (rowOf (fun i => .bool (S i)) (8 * R.n)) 4
  gr : Gr r.all w wr

section
variable {w wr w' : World} {r : RefA} {R : RefC} {S : Nat → Bool} {bc k l : Nat}
theorem Las.drew (h : Las w wr r R S bc k l) : Las w wr.drew r R S bc k l := ⟨h.row.gr0 ((Gr.refl [] _).drew), h.ch.drew, h.gr.drew⟩
theorem Las.nextB (h : Las w wr r R S bc k l) (hs : S k = true) (hb : R.bad (k / 8) = true) (hbc : bc ∉ r.all) : Las w (wr.setCell ⟨r.rw, k * 4 + 1, none⟩ (.bool false)) r R S bc (k + 1) l := by
  have g := grSet wr r.rw (k * 4 + 1) (.bool false)
  have q := h.row.setT k false
  refine ⟨?_, h.ch.gr g (by simpa using fun e => hbc (by rw [e]; simp [RefA.all])), h.gr.trans (g.mono (fun b hb => by simp at hb; subst hb; simp [RefA.all]))⟩
  rw [← laW_next R S k hs { m := (R.ws k).m, t := false, v := (R.ws k).v, f := (R.ws k).f } (by rw [hb]; rfl)]
  dsimp only at q
  rw [laW_at] at q
  exact q
end

end Go.Proofs.YtjbhallhmnahbaaGreat

/-
  The reference of layer 3: Fence, Boot.
-/
namespace Go.Proofs.YtjbhallhmnahbaaGreat
open Go.RowKit

def fenS (R : RefC) : Nat → Bool := fun i => (R.ws i).t && (R.ws i).f
def fenceR (R : RefC) : RefC := if begE R true = 0 then lastR (litR R) (fenS R) else begR R true

/-! ### Boot -/
theorem bootS_no {L : List Nat} {kp : Nat → Bool} {i : Nat} (h : i ∉ L) : bootS L kp i = false := by
  unfold bootS
  rw [List.any_eq_false]
  intro j _ e
  rw [Bool.and_eq_true, decide_eq_true_eq] at e
  exact h (List.mem_of_getElem? e.2)
/-- k of L's members are less than i. -/
def Upto (L : List Nat) (k i : Nat) : Prop := k ≤ L.length ∧ (∀ j x, j < k → L[j]? = some x → x < i) ∧ ∀ j x, k ≤ j → L[j]? = some x → i ≤ x
theorem Upto.skip {L : List Nat} {k i : Nat} (h : Upto L k i) (hi : i ∉ L) : Upto L k (i + 1) :=
  ⟨h.1, fun j x h1 h2 => by have := h.2.1 j x h1 h2; omega, fun j x h1 h2 => by
    have := h.2.2 j x h1 h2
    have hne : x ≠ i := fun e => hi (by rw [← e]; exact List.mem_of_getElem? h2)
    omega⟩
theorem sorted_lt {L : List Nat} (hs : L.Pairwise (· < ·)) {j k x y : Nat} (hjk : j < k) (hj : L[j]? = some x) (hk : L[k]? = some y) : x < y := by
  obtain ⟨q1, q2⟩ := List.getElem?_eq_some_iff.1 hj
  obtain ⟨q3, q4⟩ := List.getElem?_eq_some_iff.1 hk
  have := List.pairwise_iff_getElem.1 hs j k q1 q3 hjk
  rw [q2, q4] at this
  exact this
theorem Upto.hit {L : List Nat} {k i : Nat} (h : Upto L k i) (hs : L.Pairwise (· < ·)) (hi : i ∈ L) : L[k]? = some i := by
  obtain ⟨j, hj⟩ := List.getElem?_of_mem hi
  by_cases c : j < k
  · have := h.2.1 j i c hj; omega
  · by_cases d : j = k
    · subst d; exact hj
    · have hkl : k < L.length := by have := (List.getElem?_eq_some_iff.1 hj).1; omega
      have hk : L[k]? = some L[k] := List.getElem?_eq_getElem hkl
      have h1 := sorted_lt hs (show k < j by omega) hk hj
      have h2 := h.2.2 k _ (Nat.le_refl _) hk
      omega
theorem Upto.next {L : List Nat} {k i : Nat} (h : Upto L k i) (hs : L.Pairwise (· < ·)) (hi : i ∈ L) : Upto L (k + 1) (i + 1) := by
  have hk := h.hit hs hi
  refine ⟨(List.getElem?_eq_some_iff.1 hk).1, fun j x h1 h2 => ?_, fun j x h1 h2 => ?_⟩
  · by_cases c : j < k
    · have := h.2.1 j x c h2; omega
    · obtain rfl : j = k := by omega
      rw [hk] at h2
      have : i = x := Option.some.inj h2
      omega
  · have := sorted_lt hs (show k < j by omega) hk h2
    omega
def clrW (ws : Nat → WordS) (i : Nat) : Nat → WordS := fun k => if k < i then { m := (ws k).m, t := false, v := (ws k).v, f := (ws k).f } else ws k
def bootR (R : RefC) (L : List Nat) (kp : Nat → Bool) : RefC := { lastR R (bootS L kp) with ws := clrW (lastR R (bootS L kp)).ws (8 * R.n), off := false, fuse := 0 }

end Go.Proofs.YtjbhallhmnahbaaGreat

/-
  The reference of layer 3: Pending, New.
-/
namespace Go.Proofs.YtjbhallhmnahbaaGreat
open Go.RowKit

structure Pnd (w1 wr : World) (R : RefC) (v : Value) (M : List Nat) (k : Nat) : Prop where
  own : wr.ownsRow w1.heap.size 3 1 v M.length (M.map iW)
  gr : Gr [] w1 wr
  nil : v = .slice none 0 0 ∨ M ≠ []
  srt : M.Pairwise (· < ·)
  mem : ∀ x, x ∈ M ↔ x < k ∧ (R.ws x).t = true
theorem Pnd.skip {w1 wr : World} {R : RefC} {v : Value} {M : List Nat} {k : Nat} (Q : Pnd w1 wr R v M k) (h : (R.ws k).t = false) : Pnd w1 wr R v M (k + 1) := by
  refine ⟨Q.own, Q.gr, Q.nil, Q.srt, fun x => ?_⟩
  rw [Q.mem x]
  constructor
  · rintro ⟨h1, h2⟩; exact ⟨by omega, h2⟩
  · rintro ⟨h1, h2⟩
    by_cases e : x = k
    · subst e; rw [h] at h2; cases h2
    · exact ⟨by omega, h2⟩
theorem Pnd.take {w1 wr w2 w3 : World} {R : RefC} {v v' : Value} {M : List Nat} {k : Nat} (Q : Pnd w1 wr R v M k) (h : (R.ws k).t = true) (g2 : Gr [] wr w2) (hg : w2.grownBy w3 v.ownBlock) (ho : w3.ownsRow w1.heap.size 3 1 v' (M.length + 1) (M.map iW ++ [iW k])) :
    Pnd w1 w3 R v' (M ++ [k]) (k + 1) := by
  refine ⟨by rw [List.length_append, List.map_append]; exact ho, (Q.gr.next0 g2).grown hg (fun k hk => .inr (Q.own.lt k hk).1), .inr (by simp), ?_, fun y => ?_⟩
  · rw [List.pairwise_append]
    refine ⟨Q.srt, by simp, fun y hy z hz => ?_⟩
    rw [List.mem_singleton] at hz
    subst hz
    exact ((Q.mem y).1 hy).1
  · rw [List.mem_append, List.mem_singleton, Q.mem y]
    constructor
    · rintro (⟨h1, h2⟩ | rfl)
      · exact ⟨by omega, h2⟩
      · exact ⟨by omega, h⟩
    · rintro ⟨h1, h2⟩
      by_cases e : y = k
      · exact .inr e
      · exact .inl ⟨by omega, h2⟩
/-! ### New -/
def zeroW : Nat → WordS := fun _ => ⟨0, false, 0, false⟩
def newRC (n : Nat) : RefC := { n := n, ws := zeroW, wear := fun _ => 0, bad := fun _ => false, fuse := 0, off := false, cnt := 0 }
section
variable (w : World) (A B C H : Obj)
end
end Go.Proofs.YtjbhallhmnahbaaGreat

/-
  The reference of layer 3 against the device's state.
-/
namespace Go.Proofs.YtjbhallhmnahbaaGreat
open Go.RowKit
set_option linter.unusedVariables false

section
variable {D : DevS} {R : RefC}
theorem Says.reach (h : Says D R) (t : Bool) : reachR R t = reachE D t := by unfold reachR reachE; rw [h.off]
theorem Says.beg (h : Says D R) (t : Bool) : begE R t = opE D t := by unfold begE opE; rw [h.reach, h.fuse]
theorem Says.lit (h : Says D R) : R.off = D.off ∧ (if 1 < R.fuse then R.fuse - 1 else R.fuse) = (lit D).fuse ∧ R.cnt + 1 = D.cnt + 1 := ⟨h.off, by unfold Go.Proofs.YtjbhallhmnahbaaGreat.lit; rw [h.fuse], by rw [h.cnt]⟩
/-- An operation: refused alike, the power fails alike, and where it is done the rest is to be shown. -/
theorem Says.op (h : Says D R) (t : Bool) {f : DevS → DevS} {R' : RefC} (hok : reachE D t = 0 → D.fuse ≠ 1 → Says (f (Go.Proofs.YtjbhallhmnahbaaGreat.lit D)) R') : Says (opD D t f) (if begE R t = 0 then R' else begR R t) := by
  by_cases hr : reachE D t = 0
  · by_cases hf : D.fuse = 1
    · rw [if_neg (by rw [h.beg, opE_fuse hr hf]; omega), opD_fuse hr hf]
      unfold begR
      rw [if_neg (by rw [h.reach, hr]; simp), if_pos (by rw [h.fuse]; exact hf)]
      exact ⟨h.n, h.wear, h.bad, rfl, rfl, h.cnt, h.med, h.buf⟩
    · rw [if_pos (by rw [h.beg, opE_ok hr hf]), opD_ok hr hf]
      exact hok hr hf
  · rw [if_neg (by rw [h.beg, opE_err hr]; exact hr), opD_err hr]
    unfold begR
    rw [if_pos (by rw [h.reach]; exact hr)]
    exact h
theorem Says.store (h : Says D R) (z : Int) (v : Nat) : Says (opD D (isWord D z) (storeF z v)) (storeR R z v) := by
  unfold storeR
  rw [h.n]
  refine h.op (isWord D z) fun hr hf => ?_
  have ht : 0 ≤ z ∧ z < 8 * D.n := by have := (reach_there hr).1; unfold isWord at this; exact of_decide_eq_true this
  obtain ⟨i, rfl⟩ := Int.eq_ofNat_of_zero_le ht.1
  refine ⟨h.n, h.wear, h.bad, h.lit.2.1, h.off, h.lit.2.2, fun k hk => ?_, fun k hk => ?_⟩
  · show (storeW R.ws ((i : Int).toNat) v k).m = D.med k
    rw [Int.toNat_natCast, ← h.med k hk]
    unfold storeW updW
    by_cases e : k = i
    · subst e; rw [if_pos rfl]
    · rw [if_neg e]
  · show (updZ D.buf (i : Int) (some (v, false)) (k : Int) = none ∧ (storeW R.ws ((i : Int).toNat) v k).t = false) ∨ (updZ D.buf (i : Int) (some (v, false)) (k : Int) = some ((storeW R.ws ((i : Int).toNat) v k).v, (storeW R.ws ((i : Int).toNat) v k).f) ∧ (storeW R.ws ((i : Int).toNat) v k).t = true)
    rw [Int.toNat_natCast]
    unfold storeW updW updZ
    by_cases e : k = i
    · subst e; rw [if_pos rfl, if_pos rfl]; exact .inr ⟨rfl, rfl⟩
    · rw [if_neg e, if_neg (by omega)]; exact h.buf k hk
theorem Says.flush (h : Says D R) (z : Int) : Says (opD D (isLine D z) (flushF z)) (flushR R z) := by
  unfold flushR
  rw [h.n]
  refine h.op (isLine D z) fun hr hf => ?_
  have ht : 0 ≤ z ∧ z < D.n := by have := (reach_there hr).1; unfold isLine at this; exact of_decide_eq_true this
  obtain ⟨l, rfl⟩ := Int.eq_ofNat_of_zero_le ht.1
  refine ⟨h.n, h.wear, h.bad, h.lit.2.1, h.off, h.lit.2.2, fun k hk => ?_, fun k hk => ?_⟩
  · show (flW R.ws ((l : Int).toNat) 8 k).m = D.med k
    rw [Int.toNat_natCast, ← h.med k hk]
    unfold flW
    split <;> rfl
  · show (flF D.buf ((l : Int).toNat) 8 (k : Int) = none ∧ (flW R.ws ((l : Int).toNat) 8 k).t = false) ∨ (flF D.buf ((l : Int).toNat) 8 (k : Int) = some ((flW R.ws ((l : Int).toNat) 8 k).v, (flW R.ws ((l : Int).toNat) 8 k).f) ∧ (flW R.ws ((l : Int).toNat) 8 k).t = true)
    rw [Int.toNat_natCast]
    unfold flW flF
    by_cases e : 8 * l ≤ k ∧ k < 8 * l + 8
    · rw [if_pos e, if_pos (show 8 * (l : Int) ≤ (k : Int) ∧ (k : Int) < 8 * l + ((8 : Nat) : Int) by omega)]
      rcases h.buf k hk with ⟨h1, h2⟩ | ⟨h1, h2⟩
      · rw [h1]; exact .inl ⟨rfl, h2⟩
      · rw [h1]; exact .inr ⟨by rw [h2]; rfl, h2⟩
    · rw [if_neg e, if_neg (show ¬ (8 * (l : Int) ≤ (k : Int) ∧ (k : Int) < 8 * l + ((8 : Nat) : Int)) by omega)]
      exact h.buf k hk
theorem linesOf_congr {S S' : Nat → Bool} {n l : Nat} (h : ∀ i, i < 8 * n → S i = S' i) (hl : l < n) : linesOf S l = linesOf S' l := by
  rw [Bool.eq_iff_iff, linesOf_iff, linesOf_iff]
  constructor
  · rintro ⟨i, h1, h2⟩; exact ⟨i, by rw [← h i (by omega)]; exact h1, h2⟩
  · rintro ⟨i, h1, h2⟩; exact ⟨i, by rw [h i (by omega)]; exact h1, h2⟩
theorem Says.last (h : Says D R) {S S' : Nat → Bool} (hs : ∀ i, i < 8 * D.n → S i = S' i) (hb : ∀ i : Nat, S i = true → D.buf (i : Int) ≠ none) : Says (persistD D S) (lastR R S') := by
  refine ⟨h.n, fun l hl => ?_, h.bad, h.fuse, h.off, h.cnt, fun k hk => ?_, fun k hk => ?_⟩
  · show laT R S' R.n l = perWear D (linesOf S) l
    have hl : l < D.n := hl
    unfold laT perWear
    rw [← linesOf_congr hs hl, h.wear l hl, h.n]
    by_cases e : linesOf S l = true
    · rw [if_pos ⟨hl, e⟩, if_pos e]
    · rw [if_neg (fun q => e q.2), if_neg e]
  · show (laW R S' (8 * R.n) k).m = perMed D S k
    have hk : k < 8 * D.n := hk
    unfold laW perMed
    rw [← hs k hk, h.n]
    by_cases e : S k = true
    · rw [if_pos ⟨hk, e⟩]
      show (if R.bad (k / 8) = true then (R.ws k).m else (R.ws k).v) = _
      rw [h.bad (k / 8) (by omega)]
      rcases h.buf k hk with ⟨h1, _⟩ | ⟨h1, _⟩
      · exact absurd h1 (hb k e)
      · rw [h1]
        cases hbd : D.bad (k / 8) with
        | true => rw [if_pos rfl, if_neg (fun q => by cases q.2)]; exact h.med k hk
        | false => rw [if_neg (by simp), if_pos ⟨e, rfl⟩]; rfl
    · rw [if_neg (fun q => e q.2), if_neg (fun q => e q.1)]
      exact h.med k hk
  · show (perBuf D S (k : Int) = none ∧ (laW R S' (8 * R.n) k).t = false) ∨ (perBuf D S (k : Int) = some ((laW R S' (8 * R.n) k).v, (laW R S' (8 * R.n) k).f) ∧ (laW R S' (8 * R.n) k).t = true)
    have hk : k < 8 * D.n := hk
    unfold laW perBuf
    rw [← hs k hk, h.n, Int.toNat_natCast]
    by_cases e : S k = true
    · rw [if_pos ⟨by omega, e⟩, if_pos ⟨hk, e⟩]
      exact .inl ⟨rfl, rfl⟩
    · rw [if_neg (fun q => e q.2), if_neg (fun q => e q.2)]
      exact h.buf k hk
theorem Says.litS (h : Says D R) : Says (Go.Proofs.YtjbhallhmnahbaaGreat.lit D) { R with fuse := if 1 < R.fuse then R.fuse - 1 else R.fuse } := ⟨h.n, h.wear, h.bad, h.lit.2.1, h.off, h.cnt, h.med, h.buf⟩
theorem Says.fence (h : Says D R) : Says (opD D true fenceF) (fenceR R) := by
  unfold fenceR
  refine h.op true fun hr hf => ?_
  have q := h.litS.last (S := fluS D) (S' := fenS R) (fun i hi => by
    have hi : i < 8 * D.n := hi
    unfold fluS fenS
    rcases h.buf i hi with ⟨h1, h2⟩ | ⟨h1, h2⟩
    · rw [h1, h2]; rfl
    · rw [h1, h2, Bool.true_and]; rfl) (fun i e q => by
    have q : D.buf (i : Int) = none := q
    unfold fluS at e
    rw [q] at e
    cases e)
  exact ⟨q.n, q.wear, q.bad, q.fuse, q.off, h.lit.2.2, q.med, q.buf⟩
theorem Says.boot (h : Says D R) (L : List Nat) (kp : Nat → Bool) (hL : ∀ x ∈ L, D.buf (x : Int) ≠ none) : Says (bootD D L kp) (bootR R L kp) := by
  have q := h.last (S := bootS L kp) (S' := bootS L kp) (fun _ _ => rfl) (fun i e => by
    by_cases c : i ∈ L
    · exact hL i c
    · rw [bootS_no c] at e; cases e)
  refine ⟨q.n, q.wear, q.bad, rfl, rfl, q.cnt, fun k hk => ?_, fun k hk => ?_⟩
  · show (clrW (lastR R (bootS L kp)).ws (8 * R.n) k).m = _
    unfold clrW
    have e := q.med k hk
    split
    · exact e
    · exact e
  · refine .inl ⟨rfl, ?_⟩
    show (clrW (lastR R (bootS L kp)).ws (8 * R.n) k).t = false
    have hk : k < 8 * D.n := hk
    unfold clrW
    rw [h.n, if_pos hk]
theorem Says.pend (h : Says D R) (hs : ∀ z, D.buf z ≠ none → 0 ≤ z ∧ z < 8 * D.n) {L : List Nat} (hL : IsPend D L) (x : Nat) (hx : x < 8 * R.n) : x ∈ L ↔ (R.ws x).t = true := by
  rw [hL.2 x]
  rw [h.n] at hx
  rcases h.buf x hx with ⟨h1, h2⟩ | ⟨h1, h2⟩
  · rw [h1, h2]; simp
  · rw [h1, h2]; simp
theorem Says.new (n : Nat) : Says (newD n) (newRC n) := ⟨rfl, fun _ _ => rfl, fun _ _ => rfl, rfl, rfl, rfl, fun _ _ => rfl, fun _ _ => .inl ⟨rfl, rfl⟩⟩
end

/-! ### Calls -/
section
variable {r : RefA} {D : DevS} {w : World}
end

end Go.Proofs.YtjbhallhmnahbaaGreat

/-
  Layer 3's laws: does.
-/
namespace Go.Proofs.YtjbhallhmnahbaaGreat
open Go.RowKit

/-- How much was done, how often a line was written, at most. -/
def Bnd (D : DevS) (c : Nat) : Prop := D.cnt ≤ c ∧ ∀ l, 0 ≤ D.wear l ∧ D.wear l ≤ (c : Int)
theorem Bnd.mono {D : DevS} {c : Nat} (h : Bnd D c) : Bnd D (c + 1) := ⟨by have := h.1; omega, fun l => by have := h.2 l; omega⟩
theorem Bnd.persist {D : DevS} {c : Nat} (h : Bnd D c) (S : Nat → Bool) (l : Nat) : 0 ≤ perWear D (linesOf S) l ∧ perWear D (linesOf S) l ≤ ((c + 1 : Nat) : Int) := by
  have := h.2 l
  unfold perWear
  have e : ∀ (p : Prop) [Decidable p], 0 ≤ (if p then D.wear l + 1 else D.wear l) ∧ (if p then D.wear l + 1 else D.wear l) ≤ ((c + 1 : Nat) : Int) := fun p _ => by split <;> omega
  exact e _
theorem Bnd.op {D : DevS} {c : Nat} (h : Bnd D c) (t : Bool) {f : DevS → DevS} (hf : Bnd (f (lit D)) (c + 1)) : Bnd (opD D t f) (c + 1) := by
  unfold opD
  split
  · exact h.mono
  · split
    · exact h.mono
    · exact hf
theorem Bnd.store {D : DevS} {c : Nat} (h : Bnd D c) (z : Int) (v : Nat) : Bnd (opD D (isWord D z) (storeF z v)) (c + 1) := h.op _ ⟨by have := h.1; show D.cnt + 1 ≤ c + 1; omega, fun l => h.mono.2 l⟩
theorem Bnd.flush {D : DevS} {c : Nat} (h : Bnd D c) (z : Int) : Bnd (opD D (isLine D z) (flushF z)) (c + 1) := h.op _ ⟨by have := h.1; show D.cnt + 1 ≤ c + 1; omega, fun l => h.mono.2 l⟩
theorem Bnd.fence {D : DevS} {c : Nat} (h : Bnd D c) : Bnd (opD D true fenceF) (c + 1) := h.op _ ⟨by have := h.1; show D.cnt + 1 ≤ c + 1; omega, fun l => Bnd.persist (D := lit D) h _ l⟩
theorem Bnd.boot {D : DevS} {c : Nat} (h : Bnd D c) (L : List Nat) (kp : Nat → Bool) : Bnd (bootD D L kp) (c + 1) := ⟨by have := h.1; show D.cnt ≤ c + 1; omega, fun l => h.persist _ l⟩
end Go.Proofs.YtjbhallhmnahbaaGreat

/-
  The reference of layer 4: last, PutWord, Put.
-/
namespace Go.Proofs.YtjbhallhmnahbaaGreat
open Go.RowKit
set_option linter.unusedVariables false

theorem RefIs.c0 {W : World} {r : RefA} {D : DevS} (h : RefIs W r D) : W.cell? ⟨r.rd, 0, none⟩ = some (.slice (some ⟨r.rw, 0, none⟩) (8 * D.n) (8 * D.n)) := by
  obtain ⟨R, h1, h2⟩ := h
  rw [← h2.n]; exact h1.c0
theorem RefIs.c1 {W : World} {r : RefA} {D : DevS} (h : RefIs W r D) : W.cell? ⟨r.rd, 1, none⟩ = some (.slice (some ⟨r.rr, 0, none⟩) D.n D.n) := by
  obtain ⟨R, h1, h2⟩ := h
  rw [← h2.n]; exact h1.c1
theorem RefIs.c4 {W : World} {r : RefA} {D : DevS} (h : RefIs W r D) : W.cell? ⟨r.rd, 4, none⟩ = some (.bool D.off) := by
  obtain ⟨R, h1, h2⟩ := h
  rw [← h2.off]; exact h1.c4
theorem RefIs.c5 {W : World} {r : RefA} {D : DevS} (h : RefIs W r D) : W.cell? ⟨r.rd, 5, none⟩ = some (.int .i64 (D.cnt : Int)) := by
  obtain ⟨R, h1, h2⟩ := h
  rw [← h2.cnt]; exact h1.c5
theorem RefIs.hi {W : World} {r : RefA} {D : DevS} (h : RefIs W r D) : D.n ≤ 8192 := by
  obtain ⟨R, h1, h2⟩ := h
  rw [← h2.n]; exact h1.hi
/-- Bounds that each step keeps. -/
def Fu (D : DevS) (c : Nat) : Prop := Bd D c ∧ 0 ≤ D.fuse ∧ D.fuse ≤ 9223372036854775807
theorem fuse_op {D : DevS} (h : 0 ≤ D.fuse ∧ D.fuse ≤ 9223372036854775807) (t : Bool) {f : DevS → DevS} (hf : (f (lit D)).fuse = (lit D).fuse) : 0 ≤ (opD D t f).fuse ∧ (opD D t f).fuse ≤ 9223372036854775807 := by
  unfold opD
  split
  · exact h
  · split
    · exact ⟨Int.le_refl _, by show (0 : Int) ≤ _; omega⟩
    · rw [hf]
      show 0 ≤ (if 1 < D.fuse then D.fuse - 1 else D.fuse) ∧ (if 1 < D.fuse then D.fuse - 1 else D.fuse) ≤ 9223372036854775807
      split <;> omega
theorem Fu.store {D : DevS} {c : Nat} (h : Fu D c) (z : Int) (v : Nat) (t : Bool) : Fu (opD D t (storeF z v)) (c + 1) := ⟨h.1.store z v t, fuse_op h.2 t rfl⟩
theorem Fu.flush {D : DevS} {c : Nat} (h : Fu D c) (z : Int) (t : Bool) : Fu (opD D t (flushF z)) (c + 1) := ⟨h.1.flush z t, fuse_op h.2 t rfl⟩
theorem Fu.fence {D : DevS} {c : Nat} (h : Fu D c) (t : Bool) : Fu (opD D t fenceF) (c + 1) := ⟨h.1.fence t, fuse_op h.2 t rfl⟩
theorem Fu.mono {D : DevS} {c c' : Nat} (h : Fu D c) (hc : c ≤ c') : Fu D c' := ⟨h.1.mono hc, h.2⟩
/-! ### Put -/
end Go.Proofs.YtjbhallhmnahbaaGreat

/-
  The reference of layer 4: Get, Media.
-/
namespace Go.Proofs.YtjbhallhmnahbaaGreat
open Go.RowKit
set_option linter.unusedVariables false

/-! ### Media -/
theorem RefIs.wm {W : World} {r : RefA} {D : DevS} (h : RefIs W r D) {i : Nat} (hi : i < 8 * D.n) : W.cell? ⟨r.rw, i * 4, none⟩ = some (.int .u64 (D.med i : Int)) := by
  obtain ⟨R, h1, h2⟩ := h
  rw [← h2.med i hi]
  exact h1.wm (by rw [h2.n]; exact hi)
end Go.Proofs.YtjbhallhmnahbaaGreat

/-
  Plain lemmas on the reference's register: bit by bit.
-/
namespace Go.Proofs.YtjbhallhmnahbaaGreat
open Go.RowKit

/-- One bit goes through a register whose highest place comes first. -/
def st {w : Nat} (p x : BitVec w) (b : Bool) : BitVec w := (x <<< 1) ^^^ (if (x.msb ^^ b) = true then p else 0#w)
end Go.Proofs.YtjbhallhmnahbaaGreat

/-
  The reference's Sum: a register as a row of bits.
-/
namespace Go.Proofs.YtjbhallhmnahbaaGreat
open Go.RowKit

def bv (b : Bool) : Value := .int .i64 (b.toNat : Int)
/-- A row that holds a register's places. -/
def RegIs (xs : List Value) (n : Nat) (f : Nat → Bool) : Prop := xs.length = n ∧ ∀ j, j < n → xs[j]? = some (bv (f j))
theorem RegIs.set {xs : List Value} {n : Nat} {f g : Nat → Bool} (h : RegIs xs n f) (k : Nat) (b : Bool) (hk : k < n) (hg : g k = b) (ho : ∀ j, j < n → j ≠ k → g j = f j) : RegIs (xs.set k (bv b)) n g := by
  refine ⟨by simpa using h.1, fun j hj => ?_⟩
  have := h.1
  by_cases e : j = k
  · subst e; rw [List.getElem?_set_self (by omega), hg]
  · rw [List.getElem?_set_ne (fun h => e h.symm), ho j hj e]; exact h.2 j hj
theorem RegIs.congr {xs : List Value} {n : Nat} {f g : Nat → Bool} (h : RegIs xs n f) (ho : ∀ j, j < n → g j = f j) : RegIs xs n g :=
  ⟨h.1, fun j hj => by rw [ho j hj]; exact h.2 j hj⟩
end Go.Proofs.YtjbhallhmnahbaaGreat

/-
  The walks of layer 2's statements: checks of mixed texts.
-/
namespace Go.Proofs.YtjbhallhmnahbaaGreat
open Go.RowKit

def nums : List UInt8 := [49, 50, 51, 52, 53, 54, 55, 56, 57]
/-- Byte j of the mixed text. -/
theorem mix3_length : ∀ (l m n : List UInt8), l.length = m.length → m.length = n.length → (mix3 l m n).length = l.length
  | [], [], [], _, _ => rfl
  | a :: l, b :: m, c :: n, h, h' => by simp [mix3, mix3_length l m n (by simpa using h) (by simpa using h')]
  | [], _ :: _, _, h, _ => by simp at h
  | _ :: _, [], _, h, _ => by simp at h
  | [], [], _ :: _, _, h => by simp at h
  | _ :: _, _ :: _, [], _, h => by simp at h
theorem mix3_get : ∀ (l m n : List UInt8) (j : Nat) (h1 : j < l.length) (h2 : j < m.length) (h3 : j < n.length), (mix3 l m n)[j]? = some (l[j] ^^^ m[j] ^^^ n[j])
  | a :: l, b :: m, c :: n, 0, _, _, _ => rfl
  | a :: l, b :: m, c :: n, j + 1, h1, h2, h3 => by
    simp only [mix3, List.getElem?_cons_succ, List.getElem_cons_succ]
    exact mix3_get l m n j _ _ _
  | [], _, _, _, h, _, _ => by simp at h
  | _ :: _, [], _, _, _, h, _ => by simp at h
  | _ :: _, _ :: _, [], _, _, _, h => by simp at h

/-- The first k bytes are mixed. -/
def DoneMix (a b c : ByteArray) (k : Nat) (xs : List Value) : Prop :=
  ∀ j (h0 : j < a.size) (h1 : j < b.size) (h2 : j < c.size), j < k → xs[j]? = some (byteV (a[j] ^^^ b[j] ^^^ c[j]))
theorem DoneMix.next {a b c : ByteArray} {k : Nat} {xs : List Value} (h : DoneMix a b c k xs) (h0 : k < a.size) (h1 : k < b.size) (h2 : k < c.size) (hk : k < xs.length) :
    DoneMix a b c (k + 1) (xs.set k (.int .u8 ((a[k] ^^^ b[k] ^^^ c[k]).toNat : Int))) := by
  intro j g0 g1 g2 hj
  by_cases e : j = k
  · subst e
    rw [List.getElem?_set_self hk]; rfl
  · rw [List.getElem?_set_ne (fun h => e h.symm)]
    exact h j g0 g1 g2 (by omega)
theorem DoneMix.all {a b c : ByteArray} {n : Nat} {xs : List Value} (h : DoneMix a b c n xs) (h0 : n ≤ a.size) (h1 : n ≤ b.size) (h2 : n ≤ c.size) (hx : xs.length = n) :
    xs = (mix3 (a.extract 0 n).data.toList (b.extract 0 n).data.toList (c.extract 0 n).data.toList).map byteV := by
  have l0 : (a.extract 0 n).data.toList.length = n := by rw [← Lib.size_eq, ByteArray.size_extract]; omega
  have l1 : (b.extract 0 n).data.toList.length = n := by rw [← Lib.size_eq, ByteArray.size_extract]; omega
  have l2 : (c.extract 0 n).data.toList.length = n := by rw [← Lib.size_eq, ByteArray.size_extract]; omega
  apply List.ext_getElem?
  intro j
  by_cases hj : j < n
  · rw [h j (by omega) (by omega) (by omega) hj, List.getElem?_map, mix3_get _ _ _ j (by omega) (by omega) (by omega)]
    have e : ∀ (s : ByteArray) (hs : n ≤ s.size) (hl : j < (s.extract 0 n).data.toList.length), (s.extract 0 n).data.toList[j] = s[j] := by
      intro s hs hl
      have : (s.extract 0 n).data.toList[j]? = s.data.toList[j]? := by
        rw [Lib.extract_data, List.drop_zero, List.getElem?_take_of_lt (by omega)]
      rw [List.getElem?_eq_getElem hl, List.getElem?_eq_getElem (by simpa using (show j < s.size by omega))] at this
      exact Option.some.inj this
    simp only [Option.map_some]
    rw [e a h0, e b h1, e c h2]
  · rw [List.getElem?_eq_none (by omega), List.getElem?_eq_none (by rw [List.length_map, mix3_length _ _ _ (by omega) (by omega)]; omega)]

end Go.Proofs.YtjbhallhmnahbaaGreat

/-
  Layer 5: the document's Entries and Where.
-/
namespace Go.Proofs.YtjbhallhmnahbaaGreat
open Go.RowKit
set_option linter.unusedVariables false

/-- A row of marks, wherever it lies. -/
def RowAt (W : World) (po : Option Addr) (l : List Nat) : Prop := ∀ (k m : Nat), l[k]? = some m → ∃ g, po = some ⟨g, 0, none⟩ ∧ g < W.heap.size ∧ W.cell? ⟨g, k, none⟩ = some (.int .i64 (m : Int))
theorem RowAt.gr0 {W W' : World} {po : Option Addr} {l : List Nat} (h : RowAt W po l) (g : Gr [] W W') : RowAt W' po l := fun k m e => by
  obtain ⟨b, h1, h2, h3⟩ := h k m e
  exact ⟨b, h1, Nat.lt_of_lt_of_le h2 g.size, (g.cell0 h2).trans h3⟩
section
variable {w : World} {r : RefA} {D : DevS} {p : PlanZ} {l : List Nat}
end
end Go.Proofs.YtjbhallhmnahbaaGreat

/-
  Layer 5: the document's Format.
-/
namespace Go.Proofs.YtjbhallhmnahbaaGreat
open Go.RowKit
set_option linter.unusedVariables false

theorem Fu.zero {D : DevS} (h : Zero D) {c : Nat} (hb : Bd D c) : Fu D c := ⟨hb, by rw [h.calm.fuse]; omega⟩
section
variable {w : World} {r : RefA} {D : DevS} {p : PlanZ} {c : Nat}
end
end Go.Proofs.YtjbhallhmnahbaaGreat

/-
  Slices of acts (three integers, a word, a text, a list of bools) that come in as an argument of a law, opened.
-/
namespace Go.Proofs.YtjbhallhmnahbaaGreat
open Go.ChangeShapes Go.WideShapes Go.ChangeAt Go.RowKit
set_option linter.unusedVariables false

structure ActL where
  d : Int
  z : Int
  k : Int
  v : Nat
  s : ByteArray
  ao : Option Addr
  kl : Nat
  kc : Nat
  kp : Nat → Bool
def I64 (x : Int) : Prop := -9223372036854775808 ≤ x ∧ x ≤ 9223372036854775807
end Go.Proofs.YtjbhallhmnahbaaGreat

/-
  PmPlays: its acts, opened; the walk.
-/
namespace Go.Proofs.YtjbhallhmnahbaaGreat
open Go.ChangeShapes Go.WideShapes Go.ChangeAt Go.RowKit
set_option linter.unusedVariables false

structure ActS where
  d : Int
  z : Int
  v : Nat
  ao : Option Addr
  kl : Nat
  kc : Nat
  kp : Nat → Bool
end Go.Proofs.YtjbhallhmnahbaaGreat

/-
  Layer 5: the document's retire.
-/
namespace Go.Proofs.YtjbhallhmnahbaaGreat
open Go.RowKit
set_option linter.unusedVariables false

/-- What lasts are words. -/
def MB (D : DevS) : Prop := ∀ x, D.med x < 18446744073709551616
theorem Whole.mb {D E : DevS} {l b m : Nat} {f : Nat → Nat} (h : Whole D E l b m f) (hD : MB D) (hf : ∀ k, f k < 18446744073709551616) : MB E := fun x => by
  rw [h.med]
  split
  · exact hf _
  · exact hD x
section
variable {p : PlanZ} {D : DevS} {B : BkS} {s : ByteArray} {i : Int}
end
section
variable {w : World} {r : RefA} {D : DevS} {p : PlanZ} {B : BkS} {c : Nat}
end
end Go.Proofs.YtjbhallhmnahbaaGreat

/-
  Layer 5: has the device what the document's has?
-/
namespace Go.Proofs.YtjbhallhmnahbaaGreat
open Go.RowKit
set_option linter.unusedVariables false

theorem RefIs.wearAt {W : World} {r : RefA} {D : DevS} (h : RefIs W r D) {i : Nat} (hi : i < D.n) : W.cell? ⟨r.rr, i, none⟩ = some (.int .i64 (D.wear i)) := by
  obtain ⟨R, h1, h2⟩ := h
  rw [← h2.wear i hi]
  exact h1.wearAt (by rw [h2.n]; exact hi)
end Go.Proofs.YtjbhallhmnahbaaGreat
