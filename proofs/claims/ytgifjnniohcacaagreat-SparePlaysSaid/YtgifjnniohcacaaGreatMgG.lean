/-
  MgG: PmRf, PmRg, PmRh.
-/
import Derived.Test.YtgifjnniohcacaaGreatMgJ
import Derived.Deep.QuietTactic
import Derived.BigQuiet
import Derived.Deep.RegionHeld3

/-
  The reference of layer 3 against the device's state.
-/
namespace Go.Proofs.YtgifjnniohcacaaGreat
open Go.RowKit
set_option linter.unusedVariables false

section
variable {D : DevS} {R : RefC}
theorem Says.reach (h : Says D R) (t : Bool) : reachR R t = reachE D t := by unfold reachR reachE; rw [h.off]
theorem Says.beg (h : Says D R) (t : Bool) : begE R t = opE D t := by unfold begE opE; rw [h.reach, h.fuse]
theorem Says.lit (h : Says D R) : R.off = D.off ∧ (if 1 < R.fuse then R.fuse - 1 else R.fuse) = (lit D).fuse ∧ R.cnt + 1 = D.cnt + 1 := ⟨h.off, by unfold Go.Proofs.YtgifjnniohcacaaGreat.lit; rw [h.fuse], by rw [h.cnt]⟩
/-- An operation: refused alike, the power fails alike, and where it is done the rest is to be shown. -/
theorem Says.op (h : Says D R) (t : Bool) {f : DevS → DevS} {R' : RefC} (hok : reachE D t = 0 → D.fuse ≠ 1 → Says (f (Go.Proofs.YtgifjnniohcacaaGreat.lit D)) R') : Says (opD D t f) (if begE R t = 0 then R' else begR R t) := by
  by_cases hr : reachE D t = 0
  · by_cases hf : D.fuse = 1
    · rw [if_neg (by rw [h.beg, opE_fuse hr hf]; omega), opD_fuse hr hf]
      unfold begR
      rw [if_neg (by rw [h.reach, hr]; simp), if_pos (by rw [h.fuse]; exact hf)]
      exact ⟨h.n, h.wear, h.bad, rfl, rfl, h.cnt, h.med, h.buf⟩
    · rw [if_pos (by rw [h.beg, opE_ok hr hf]), opD_ok hr hf]
      exact hok hr hf
  · rw [if_neg (by rw [h.beg, opE_err hr]; exact hr), opD_err hr]
    unfold begR
    rw [if_pos (by rw [h.reach]; exact hr)]
    exact h
theorem reach_word {z : Int} {D : DevS} {t : Bool} (h : reachE D t = 0) : t = true := (reach_there h).1
theorem Says.store (h : Says D R) (z : Int) (v : Nat) : Says (opD D (isWord D z) (storeF z v)) (storeR R z v) := by
  unfold storeR
  rw [h.n]
  refine h.op (isWord D z) fun hr hf => ?_
  have ht : 0 ≤ z ∧ z < 8 * D.n := by have := (reach_there hr).1; unfold isWord at this; exact of_decide_eq_true this
  obtain ⟨i, rfl⟩ := Int.eq_ofNat_of_zero_le ht.1
  refine ⟨h.n, h.wear, h.bad, h.lit.2.1, h.off, h.lit.2.2, fun k hk => ?_, fun k hk => ?_⟩
  · show (storeW R.ws ((i : Int).toNat) v k).m = D.med k
    rw [Int.toNat_natCast, ← h.med k hk]
    unfold storeW updW
    by_cases e : k = i
    · subst e; rw [if_pos rfl]
    · rw [if_neg e]
  · show (updZ D.buf (i : Int) (some (v, false)) (k : Int) = none ∧ (storeW R.ws ((i : Int).toNat) v k).t = false) ∨ (updZ D.buf (i : Int) (some (v, false)) (k : Int) = some ((storeW R.ws ((i : Int).toNat) v k).v, (storeW R.ws ((i : Int).toNat) v k).f) ∧ (storeW R.ws ((i : Int).toNat) v k).t = true)
    rw [Int.toNat_natCast]
    unfold storeW updW updZ
    by_cases e : k = i
    · subst e; rw [if_pos rfl, if_pos rfl]; exact .inr ⟨rfl, rfl⟩
    · rw [if_neg e, if_neg (by omega)]; exact h.buf k hk
theorem Says.flush (h : Says D R) (z : Int) : Says (opD D (isLine D z) (flushF z)) (flushR R z) := by
  unfold flushR
  rw [h.n]
  refine h.op (isLine D z) fun hr hf => ?_
  have ht : 0 ≤ z ∧ z < D.n := by have := (reach_there hr).1; unfold isLine at this; exact of_decide_eq_true this
  obtain ⟨l, rfl⟩ := Int.eq_ofNat_of_zero_le ht.1
  refine ⟨h.n, h.wear, h.bad, h.lit.2.1, h.off, h.lit.2.2, fun k hk => ?_, fun k hk => ?_⟩
  · show (flW R.ws ((l : Int).toNat) 8 k).m = D.med k
    rw [Int.toNat_natCast, ← h.med k hk]
    unfold flW
    split <;> rfl
  · show (flF D.buf ((l : Int).toNat) 8 (k : Int) = none ∧ (flW R.ws ((l : Int).toNat) 8 k).t = false) ∨ (flF D.buf ((l : Int).toNat) 8 (k : Int) = some ((flW R.ws ((l : Int).toNat) 8 k).v, (flW R.ws ((l : Int).toNat) 8 k).f) ∧ (flW R.ws ((l : Int).toNat) 8 k).t = true)
    rw [Int.toNat_natCast]
    unfold flW flF
    by_cases e : 8 * l ≤ k ∧ k < 8 * l + 8
    · rw [if_pos e, if_pos (show 8 * (l : Int) ≤ (k : Int) ∧ (k : Int) < 8 * l + ((8 : Nat) : Int) by omega)]
      rcases h.buf k hk with ⟨h1, h2⟩ | ⟨h1, h2⟩
      · rw [h1]; exact .inl ⟨rfl, h2⟩
      · rw [h1]; exact .inr ⟨by rw [h2]; rfl, h2⟩
    · rw [if_neg e, if_neg (show ¬ (8 * (l : Int) ≤ (k : Int) ∧ (k : Int) < 8 * l + ((8 : Nat) : Int)) by omega)]
      exact h.buf k hk
theorem linesOf_congr {S S' : Nat → Bool} {n l : Nat} (h : ∀ i, i < 8 * n → S i = S' i) (hl : l < n) : linesOf S l = linesOf S' l := by
  rw [Bool.eq_iff_iff, linesOf_iff, linesOf_iff]
  constructor
  · rintro ⟨i, h1, h2⟩; exact ⟨i, by rw [← h i (by omega)]; exact h1, h2⟩
  · rintro ⟨i, h1, h2⟩; exact ⟨i, by rw [h i (by omega)]; exact h1, h2⟩
theorem Says.last (h : Says D R) {S S' : Nat → Bool} (hs : ∀ i, i < 8 * D.n → S i = S' i) (hb : ∀ i : Nat, S i = true → D.buf (i : Int) ≠ none) : Says (persistD D S) (lastR R S') := by
  refine ⟨h.n, fun l hl => ?_, h.bad, h.fuse, h.off, h.cnt, fun k hk => ?_, fun k hk => ?_⟩
  · show laT R S' R.n l = perWear D (linesOf S) l
    have hl : l < D.n := hl
    unfold laT perWear
    rw [← linesOf_congr hs hl, h.wear l hl, h.n]
    by_cases e : linesOf S l = true
    · rw [if_pos ⟨hl, e⟩, if_pos e]
    · rw [if_neg (fun q => e q.2), if_neg e]
  · show (laW R S' (8 * R.n) k).m = perMed D S k
    have hk : k < 8 * D.n := hk
    unfold laW perMed
    rw [← hs k hk, h.n]
    by_cases e : S k = true
    · rw [if_pos ⟨hk, e⟩]
      show (if R.bad (k / 8) = true then (R.ws k).m else (R.ws k).v) = _
      rw [h.bad (k / 8) (by omega)]
      rcases h.buf k hk with ⟨h1, _⟩ | ⟨h1, _⟩
      · exact absurd h1 (hb k e)
      · rw [h1]
        cases hbd : D.bad (k / 8) with
        | true => rw [if_pos rfl, if_neg (fun q => by cases q.2)]; exact h.med k hk
        | false => rw [if_neg (by simp), if_pos ⟨e, rfl⟩]; rfl
    · rw [if_neg (fun q => e q.2), if_neg (fun q => e q.1)]
      exact h.med k hk
  · show (perBuf D S (k : Int) = none ∧ (laW R S' (8 * R.n) k).t = false) ∨ (perBuf D S (k : Int) = some ((laW R S' (8 * R.n) k).v, (laW R S' (8 * R.n) k).f) ∧ (laW R S' (8 * R.n) k).t = true)
    have hk : k < 8 * D.n := hk
    unfold laW perBuf
    rw [← hs k hk, h.n, Int.toNat_natCast]
    by_cases e : S k = true
    · rw [if_pos ⟨by omega, e⟩, if_pos ⟨hk, e⟩]
      exact .inl ⟨rfl, rfl⟩
    · rw [if_neg (fun q => e q.2), if_neg (fun q => e q.2)]
      exact h.buf k hk
theorem Says.litS (h : Says D R) : Says (Go.Proofs.YtgifjnniohcacaaGreat.lit D) { R with fuse := if 1 < R.fuse then R.fuse - 1 else R.fuse } := ⟨h.n, h.wear, h.bad, h.lit.2.1, h.off, h.cnt, h.med, h.buf⟩
theorem Says.fence (h : Says D R) : Says (opD D true fenceF) (fenceR R) := by
  unfold fenceR
  refine h.op true fun hr hf => ?_
  have q := h.litS.last (S := fluS D) (S' := fenS R) (fun i hi => by
    have hi : i < 8 * D.n := hi
    unfold fluS fenS
    rcases h.buf i hi with ⟨h1, h2⟩ | ⟨h1, h2⟩
    · rw [h1, h2]; rfl
    · rw [h1, h2, Bool.true_and]; rfl) (fun i e q => by
    have q : D.buf (i : Int) = none := q
    unfold fluS at e
    rw [q] at e
    cases e)
  exact ⟨q.n, q.wear, q.bad, q.fuse, q.off, h.lit.2.2, q.med, q.buf⟩
theorem Says.boot (h : Says D R) (L : List Nat) (kp : Nat → Bool) (hL : ∀ x ∈ L, D.buf (x : Int) ≠ none) : Says (bootD D L kp) (bootR R L kp) := by
  have q := h.last (S := bootS L kp) (S' := bootS L kp) (fun _ _ => rfl) (fun i e => by
    by_cases c : i ∈ L
    · exact hL i c
    · rw [bootS_no c] at e; cases e)
  refine ⟨q.n, q.wear, q.bad, rfl, rfl, q.cnt, fun k hk => ?_, fun k hk => ?_⟩
  · show (clrW (lastR R (bootS L kp)).ws (8 * R.n) k).m = _
    unfold clrW
    have e := q.med k hk
    split
    · exact e
    · exact e
  · refine .inl ⟨rfl, ?_⟩
    show (clrW (lastR R (bootS L kp)).ws (8 * R.n) k).t = false
    have hk : k < 8 * D.n := hk
    unfold clrW
    rw [h.n, if_pos hk]
theorem Says.pend (h : Says D R) (hs : ∀ z, D.buf z ≠ none → 0 ≤ z ∧ z < 8 * D.n) {L : List Nat} (hL : IsPend D L) (x : Nat) (hx : x < 8 * R.n) : x ∈ L ↔ (R.ws x).t = true := by
  rw [hL.2 x]
  rw [h.n] at hx
  rcases h.buf x hx with ⟨h1, h2⟩ | ⟨h1, h2⟩
  · rw [h1, h2]; simp
  · rw [h1, h2]; simp
theorem sorted_unique : ∀ (L M : List Nat), L.Pairwise (· < ·) → M.Pairwise (· < ·) → (∀ x, x ∈ L ↔ x ∈ M) → L = M
  | [], [], _, _, _ => rfl
  | [], y :: M, _, _, h => by have := (h y).2 (by simp); cases this
  | x :: L, [], _, _, h => by have := (h x).1 (by simp); cases this
  | x :: L, y :: M, hL, hM, h => by
    rw [List.pairwise_cons] at hL hM
    have e : x = y := by
      have h1 := (h x).1 (by simp)
      have h2 := (h y).2 (by simp)
      rcases List.mem_cons.1 h1 with q | q
      · exact q
      · rcases List.mem_cons.1 h2 with q2 | q2
        · exact q2.symm
        · have := hM.1 x q; have := hL.1 y q2; omega
    subst e
    congr 1
    refine sorted_unique L M hL.2 hM.2 fun z => ?_
    constructor
    · intro hz
      have := hL.1 z hz
      rcases List.mem_cons.1 ((h z).1 (by simp [hz])) with q | q
      · omega
      · exact q
    · intro hz
      have := hM.1 z hz
      rcases List.mem_cons.1 ((h z).2 (by simp [hz])) with q | q
      · omega
      · exact q
theorem Says.new (n : Nat) : Says (newD n) (newRC n) := ⟨rfl, fun _ _ => rfl, fun _ _ => rfl, rfl, rfl, rfl, fun _ _ => rfl, fun _ _ => .inl ⟨rfl, rfl⟩⟩
end

/-! ### Calls -/
section
variable {r : RefA} {D : DevS} {w : World}
theorem ref_store (z : Int) (v : Nat) (h : RefIs w r D) (hc : D.cnt < 4611686018427387904) (hf : 0 ≤ D.fuse ∧ D.fuse ≤ 9223372036854775807) :
    Calls Tryz.prog 74 #[.pointer (some ⟨r.rd, 0, none⟩), .int .i64 z, .int .u64 v] w fun e w' => e = .returned (.int .i64 (opE D (isWord D z))) ∧ RefIs w' r (opD D (isWord D z) (storeF z v)) ∧ Gr r.all w w' := by
  obtain ⟨R, h1, h2⟩ := h
  refine (rstore_any r R z v w h1 (by rw [h2.cnt]; exact hc) (by rw [h2.fuse]; exact hf)).mono ?_
  rintro e w' ⟨rfl, q, g⟩
  refine ⟨?_, ⟨_, q, h2.store z v⟩, g⟩
  rw [h2.beg, h2.n]
  rfl
theorem ref_flush (z : Int) (h : RefIs w r D) (hc : D.cnt < 4611686018427387904) (hf : 0 ≤ D.fuse ∧ D.fuse ≤ 9223372036854775807) :
    Calls Tryz.prog 94 #[.pointer (some ⟨r.rd, 0, none⟩), .int .i64 z] w fun e w' => e = .returned (.int .i64 (opE D (isLine D z))) ∧ RefIs w' r (opD D (isLine D z) (flushF z)) ∧ Gr r.all w w' := by
  obtain ⟨R, h1, h2⟩ := h
  refine (rflush_any r R z w h1 (by rw [h2.cnt]; exact hc) (by rw [h2.fuse]; exact hf)).mono ?_
  rintro e w' ⟨rfl, q, g⟩
  refine ⟨?_, ⟨_, q, h2.flush z⟩, g⟩
  rw [h2.beg, h2.n]
  rfl
theorem ref_fence (h : RefIs w r D) (hc : D.cnt < 4611686018427387904) (hf : 0 ≤ D.fuse ∧ D.fuse ≤ 9223372036854775807) (hw : ∀ l, 0 ≤ D.wear l ∧ D.wear l < 4611686018427387904) :
    Calls Tryz.prog 95 #[.pointer (some ⟨r.rd, 0, none⟩)] w fun e w' => e = .returned (.int .i64 (opE D true)) ∧ RefIs w' r (opD D true fenceF) ∧ Gr r.all w w' := by
  obtain ⟨R, h1, h2⟩ := h
  refine (rfence_any r R w h1 (by rw [h2.cnt]; exact hc) (by rw [h2.fuse]; exact hf) (fun l hl => by rw [h2.wear l (by rw [← h2.n]; exact hl)]; exact hw l)).mono ?_
  rintro e w' ⟨rfl, q, g⟩
  exact ⟨by rw [h2.beg], ⟨_, q, h2.fence⟩, g⟩
theorem ref_boot (kv : Value) (kl : Nat) (kp : Nat → Bool) (L : List Nat) (h : RefIs w r D) (hk : KeepIs w kv kl kp) (hw : ∀ l, 0 ≤ D.wear l ∧ D.wear l < 4611686018427387904) (hs : ∀ z, D.buf z ≠ none → 0 ≤ z ∧ z < 8 * D.n) (hL : IsPend D L) :
    Calls Tryz.prog 22 #[.pointer (some ⟨r.rd, 0, none⟩), kv] w fun e w' => e = .returned (.tuple #[]) ∧ RefIs w' r (bootD D L kp) ∧ Gr r.all w w' := by
  obtain ⟨R, h1, h2⟩ := h
  refine (rboot_any r R kv kl kp L w h1 hk (fun l hl => by rw [h2.wear l (by rw [← h2.n]; exact hl)]; exact hw l) hL.1 (fun x hx => h2.pend hs hL x hx)).mono ?_
  rintro e w' ⟨rfl, q, g⟩
  exact ⟨rfl, ⟨_, q, h2.boot L kp fun x hx => (hL.2 x).1 hx⟩, g⟩
/-- What Load answers. -/
def loadP (D : DevS) (z : Int) : Int × Int := if reachE D (decide (0 ≤ z ∧ z < 8 * D.n)) ≠ 0 then (0, reachE D (decide (0 ≤ z ∧ z < 8 * D.n))) else ((loadV D z.toNat : Int), 0)
theorem ref_load (z : Int) (h : RefIs w r D) :
    Calls Tryz.prog 47 #[.pointer (some ⟨r.rd, 0, none⟩), .int .i64 z] w fun e w' => e = .returned (.tuple #[.int .u64 (loadP D z).1, .int .i64 (loadP D z).2]) ∧ w = w' := by
  obtain ⟨R, h1, h2⟩ := h
  have e : loadR R z = loadP D z := by
    cases ho : D.off with
    | true =>
      have l1 : loadR R z = (0, 6) := by unfold loadR; rw [h2.off, ho, if_pos rfl]
      have l2 : loadP D z = (0, 6) := by unfold loadP reachE; rw [ho]; rfl
      rw [l1, l2]
    | false =>
      by_cases hz : 0 ≤ z ∧ z < 8 * D.n
      · have l1 : loadR R z = (if (R.ws z.toNat).t then ((R.ws z.toNat).v : Int) else ((R.ws z.toNat).m : Int), 0) := by unfold loadR; rw [h2.off, ho, if_neg (by simp), if_pos (by rw [h2.n]; exact hz)]
        have l2 : loadP D z = ((loadV D z.toNat : Int), 0) := by unfold loadP reachE; rw [ho, decide_eq_true hz]; rfl
        rw [l1, l2]
        obtain ⟨i, rfl⟩ := Int.eq_ofNat_of_zero_le hz.1
        rw [Int.toNat_natCast]
        unfold loadV
        rcases h2.buf i (by omega) with ⟨q1, q2⟩ | ⟨q1, q2⟩
        · rw [q1, q2, h2.med i (by omega)]; rfl
        · rw [q1, q2]; rfl
      · have l1 : loadR R z = (0, 3) := by unfold loadR; rw [h2.off, ho, if_neg (by simp), if_neg (by rw [h2.n]; exact hz)]
        have l2 : loadP D z = (0, 3) := by unfold loadP reachE; rw [ho, decide_eq_false hz]; rfl
        rw [l1, l2]
  refine (rload_any r R z w h1).mono ?_
  rintro e' w' ⟨rfl, rfl⟩
  rw [e]
  exact ⟨rfl, rfl⟩
theorem dev_load (a : DevA) (z : Int) (h : DevIs w a D) :
    Calls Tryz.prog 58 #[.pointer (some ⟨a.bd, 0, none⟩), .int .i64 z] w fun e w' => e = .returned (.tuple #[.int .u64 (loadP D z).1, .int .i64 (loadP D z).2]) ∧ Gr [] w w' := by
  by_cases hr : reachE D (decide (0 ≤ z ∧ z < 8 * D.n)) = 0
  · have ht := reach_there hr
    have hz : 0 ≤ z ∧ z < 8 * D.n := of_decide_eq_true ht.1
    obtain ⟨i, rfl⟩ := Int.eq_ofNat_of_zero_le hz.1
    have e : loadP D (i : Int) = ((loadV D i : Int), 0) := by unfold loadP; rw [if_neg (fun q => q hr), Int.toNat_natCast]
    refine (load_ok a D i w h ht.2 (by omega)).mono ?_
    rintro e' w' ⟨rfl, g⟩
    rw [e]
    exact ⟨rfl, g⟩
  · have e : loadP D z = (0, reachE D (decide (0 ≤ z ∧ z < 8 * D.n))) := by unfold loadP; rw [if_pos hr]
    refine (load_err a D z w h hr).mono ?_
    rintro e' w' ⟨rfl, rfl⟩
    rw [e]
    exact ⟨rfl, Gr.refl _ _⟩
end

end Go.Proofs.YtgifjnniohcacaaGreat

/-
  Layer 3's laws: same.
-/
namespace Go.Proofs.YtgifjnniohcacaaGreat
open Go.RowKit

theorem calls_flipR {P : Program} {f : FuncId} {args : Array Value} {w : World} {v : Value} (h : Calls P f args w fun e w' => e = .returned v ∧ w = w') : Calls P f args w fun e w' => e = .returned v ∧ w' = w := h.mono fun _ _ q => ⟨q.1, q.2.symm⟩
/-- A row of words, however it lies. -/
theorem row_shape {w0 w1 : World} {v : Value} {L : List Nat} (h : w1.ownsRow w0.heap.size 3 1 v L.length (L.map iW)) :
    ∃ po pc, v = .slice po L.length pc ∧ ∀ (k x : Nat), L[k]? = some x → ∃ g, po = some ⟨g, 0, none⟩ ∧ g < w1.heap.size ∧ w1.cell? ⟨g, k, none⟩ = some (.int .i64 (x : Int)) := by
  have hcells := fun g (hg : v.ownBlock = some g) => h.cells hg
  rcases h.2 with ⟨rfl, h0⟩ | ⟨g, cap, cur, rfl, hg, hh, _⟩
  · exact ⟨none, 0, by rw [h0], fun k x hk => by have := (List.getElem?_eq_some_iff.1 hk).1; omega⟩
  · refine ⟨some ⟨g, 0, none⟩, cap, rfl, fun k x hk => ⟨g, rfl, (Array.getElem?_eq_some_iff.1 hh).1, ?_⟩⟩
    have := hcells g rfl k (iW x) (by rw [List.getElem?_map, hk]; rfl)
    rw [addp] at this
    exact this

end Go.Proofs.YtgifjnniohcacaaGreat

/-
  Layer 3's laws: does.
-/
namespace Go.Proofs.YtgifjnniohcacaaGreat
open Go.RowKit

/-- How much was done, how often a line was written, at most. -/
def Bnd (D : DevS) (c : Nat) : Prop := D.cnt ≤ c ∧ ∀ l, 0 ≤ D.wear l ∧ D.wear l ≤ (c : Int)
theorem Bnd.mono {D : DevS} {c : Nat} (h : Bnd D c) : Bnd D (c + 1) := ⟨by have := h.1; omega, fun l => by have := h.2 l; omega⟩
theorem Bnd.persist {D : DevS} {c : Nat} (h : Bnd D c) (S : Nat → Bool) (l : Nat) : 0 ≤ perWear D (linesOf S) l ∧ perWear D (linesOf S) l ≤ ((c + 1 : Nat) : Int) := by
  have := h.2 l
  unfold perWear
  have e : ∀ (p : Prop) [Decidable p], 0 ≤ (if p then D.wear l + 1 else D.wear l) ∧ (if p then D.wear l + 1 else D.wear l) ≤ ((c + 1 : Nat) : Int) := fun p _ => by split <;> omega
  exact e _
theorem Bnd.op {D : DevS} {c : Nat} (h : Bnd D c) (t : Bool) {f : DevS → DevS} (hf : Bnd (f (lit D)) (c + 1)) : Bnd (opD D t f) (c + 1) := by
  unfold opD
  split
  · exact h.mono
  · split
    · exact h.mono
    · exact hf
theorem Bnd.store {D : DevS} {c : Nat} (h : Bnd D c) (z : Int) (v : Nat) : Bnd (opD D (isWord D z) (storeF z v)) (c + 1) := h.op _ ⟨by have := h.1; show D.cnt + 1 ≤ c + 1; omega, fun l => h.mono.2 l⟩
theorem Bnd.flush {D : DevS} {c : Nat} (h : Bnd D c) (z : Int) : Bnd (opD D (isLine D z) (flushF z)) (c + 1) := h.op _ ⟨by have := h.1; show D.cnt + 1 ≤ c + 1; omega, fun l => h.mono.2 l⟩
theorem Bnd.fence {D : DevS} {c : Nat} (h : Bnd D c) : Bnd (opD D true fenceF) (c + 1) := h.op _ ⟨by have := h.1; show D.cnt + 1 ≤ c + 1; omega, fun l => Bnd.persist (D := lit D) h _ l⟩
theorem Bnd.boot {D : DevS} {c : Nat} (h : Bnd D c) (L : List Nat) (kp : Nat → Bool) : Bnd (bootD D L kp) (c + 1) := ⟨by have := h.1; show D.cnt ≤ c + 1; omega, fun l => h.persist _ l⟩
theorem opD_n (D : DevS) (t : Bool) (f : DevS → DevS) (hf : (f (lit D)).n = D.n) : (opD D t f).n = D.n := by
  unfold opD
  split
  · rfl
  · split
    · rfl
    · exact hf
theorem max0r (P : Program) (ts : Array TypeId) (t : TypeId) (y : Int) (w : World) : (Builtin.max_ ts t #[.int .i64 y, .int .i64 0]).run P w = .ok (.int .i64 (mx y)) w := by
  rw [run_max_int2]
  have : (if (0 : Int) > y then 0 else y) = mx y := by unfold mx; split <;> omega
  rw [this]
theorem minIsR (P : Program) (L m k : Nat) (kI : Int) (hk : kI = k) (h : m = min L k) (ts : Array TypeId) (t : TypeId) (w : World) : (Builtin.min_ ts t #[.int .i64 (L : Int), .int .i64 kI]).run P w = .ok (.int .i64 (m : Int)) w := by
  subst hk
  rw [run_min_int2]
  have : (if (k : Int) < (L : Int) then (k : Int) else (L : Int)) = (m : Int) := by split <;> omega
  rw [this]
theorem cell_gr {W W' : World} {bs : List Nat} {b o : Nat} (g : Gr bs W W') (hb : b < W.heap.size) (hn : b ∉ bs) : W'.cell? ⟨b, o, none⟩ = W.cell? ⟨b, o, none⟩ := World.cell?_of_block (w := W) (g.block b hb hn)

/-- What an act leaves. -/
def DoesPost (a : DevA) (r : RefA) (D : DevS) (c : Nat) (w : World) (e : Ending) (w' : World) : Prop := ∃ D', e = .returned (.bool true) ∧ DevIs w' a D' ∧ RefIs w' r D' ∧ Gr (a.all ++ r.all) w w' ∧ D'.n = D.n ∧ Bnd D' (c + 1)

end Go.Proofs.YtgifjnniohcacaaGreat
