/-
  PkAs: PmRf, PmRh, LnK.
-/
import Derived.Test.YtjbhallhmnahbaaGreatPkAr
import Derived.Test.YtjbhallhmnahbaaGreatPkAm
import Derived.Deep.QuietTactic
import Derived.BigQuiet
import Derived.Deep.RegionHeld3

set_option linter.unusedVariables false

/-
  The reference of layer 3 against the device's state.
-/
namespace Go.Proofs.YtjbhallhmnahbaaGreat
open Go.RowKit
set_option linter.unusedVariables false

section
variable {D : DevS} {R : RefC}
theorem Says.reach (h : Says D R) (t : Bool) : reachR R t = reachE D t := by unfold reachR reachE; rw [h.off]
theorem Says.beg (h : Says D R) (t : Bool) : begE R t = opE D t := by unfold begE opE; rw [h.reach, h.fuse]
theorem Says.lit (h : Says D R) : R.off = D.off ∧ (if 1 < R.fuse then R.fuse - 1 else R.fuse) = (lit D).fuse ∧ R.cnt + 1 = D.cnt + 1 := ⟨h.off, by unfold Go.Proofs.YtjbhallhmnahbaaGreat.lit; rw [h.fuse], by rw [h.cnt]⟩
theorem Says.op (h : Says D R) (t : Bool) {f : DevS → DevS} {R' : RefC} (hok : reachE D t = 0 → D.fuse ≠ 1 → Says (f (Go.Proofs.YtjbhallhmnahbaaGreat.lit D)) R') : Says (opD D t f) (if begE R t = 0 then R' else begR R t) := by
  by_cases hr : reachE D t = 0
  · by_cases hf : D.fuse = 1
    · rw [if_neg (by rw [h.beg, opE_fuse hr hf]; omega), opD_fuse hr hf]
      unfold begR
      rw [if_neg (by rw [h.reach, hr]; simp), if_pos (by rw [h.fuse]; exact hf)]
      exact ⟨h.n, h.wear, h.bad, rfl, rfl, h.cnt, h.med, h.buf⟩
    · rw [if_pos (by rw [h.beg, opE_ok hr hf]), opD_ok hr hf]
      exact hok hr hf
  · rw [if_neg (by rw [h.beg, opE_err hr]; exact hr), opD_err hr]
    unfold begR
    rw [if_pos (by rw [h.reach]; exact hr)]
    exact h
theorem Says.store (h : Says D R) (z : Int) (v : Nat) : Says (opD D (isWord D z) (storeF z v)) (storeR R z v) := by
  unfold storeR
  rw [h.n]
  refine h.op (isWord D z) fun hr hf => ?_
  have ht : 0 ≤ z ∧ z < 8 * D.n := by have := (reach_there hr).1; unfold isWord at this; exact of_decide_eq_true this
  obtain ⟨i, rfl⟩ := Int.eq_ofNat_of_zero_le ht.1
  refine ⟨h.n, h.wear, h.bad, h.lit.2.1, h.off, h.lit.2.2, fun k hk => ?_, fun k hk => ?_⟩
  · show (storeW R.ws ((i : Int).toNat) v k).m = D.med k
    rw [Int.toNat_natCast, ← h.med k hk]
    unfold storeW updW
    by_cases e : k = i
    · subst e; rw [if_pos rfl]
    · rw [if_neg e]
  · show (updZ D.buf (i : Int) (some (v, false)) (k : Int) = none ∧ (storeW R.ws ((i : Int).toNat) v k).t = false) ∨ (updZ D.buf (i : Int) (some (v, false)) (k : Int) = some ((storeW R.ws ((i : Int).toNat) v k).v, (storeW R.ws ((i : Int).toNat) v k).f) ∧ (storeW R.ws ((i : Int).toNat) v k).t = true)
    rw [Int.toNat_natCast]
    unfold storeW updW updZ
    by_cases e : k = i
    · subst e; rw [if_pos rfl, if_pos rfl]; exact .inr ⟨rfl, rfl⟩
    · rw [if_neg e, if_neg (by omega)]; exact h.buf k hk
theorem Says.flush (h : Says D R) (z : Int) : Says (opD D (isLine D z) (flushF z)) (flushR R z) := by
  unfold flushR
  rw [h.n]
  refine h.op (isLine D z) fun hr hf => ?_
  have ht : 0 ≤ z ∧ z < D.n := by have := (reach_there hr).1; unfold isLine at this; exact of_decide_eq_true this
  obtain ⟨l, rfl⟩ := Int.eq_ofNat_of_zero_le ht.1
  refine ⟨h.n, h.wear, h.bad, h.lit.2.1, h.off, h.lit.2.2, fun k hk => ?_, fun k hk => ?_⟩
  · show (flW R.ws ((l : Int).toNat) 8 k).m = D.med k
    rw [Int.toNat_natCast, ← h.med k hk]
    unfold flW
    split <;> rfl
  · show (flF D.buf ((l : Int).toNat) 8 (k : Int) = none ∧ (flW R.ws ((l : Int).toNat) 8 k).t = false) ∨ (flF D.buf ((l : Int).toNat) 8 (k : Int) = some ((flW R.ws ((l : Int).toNat) 8 k).v, (flW R.ws ((l : Int).toNat) 8 k).f) ∧ (flW R.ws ((l : Int).toNat) 8 k).t = true)
    rw [Int.toNat_natCast]
    unfold flW flF
    by_cases e : 8 * l ≤ k ∧ k < 8 * l + 8
    · rw [if_pos e, if_pos (show 8 * (l : Int) ≤ (k : Int) ∧ (k : Int) < 8 * l + ((8 : Nat) : Int) by omega)]
      rcases h.buf k hk with ⟨h1, h2⟩ | ⟨h1, h2⟩
      · rw [h1]; exact .inl ⟨rfl, h2⟩
      · rw [h1]; exact .inr ⟨by rw [h2]; rfl, h2⟩
    · rw [if_neg e, if_neg (show ¬ (8 * (l : Int) ≤ (k : Int) ∧ (k : Int) < 8 * l + ((8 : Nat) : Int)) by omega)]
      exact h.buf k hk
theorem linesOf_congr {S S' : Nat → Bool} {n l : Nat} (h : ∀ i, i < 8 * n → S i = S' i) (hl : l < n) : linesOf S l = linesOf S' l := by
  rw [Bool.eq_iff_iff, linesOf_iff, linesOf_iff]
  constructor
  · rintro ⟨i, h1, h2⟩; exact ⟨i, by rw [← h i (by omega)]; exact h1, h2⟩
  · rintro ⟨i, h1, h2⟩; exact ⟨i, by rw [h i (by omega)]; exact h1, h2⟩
theorem Says.last (h : Says D R) {S S' : Nat → Bool} (hs : ∀ i, i < 8 * D.n → S i = S' i) (hb : ∀ i : Nat, S i = true → D.buf (i : Int) ≠ none) : Says (persistD D S) (lastR R S') := by
  refine ⟨h.n, fun l hl => ?_, h.bad, h.fuse, h.off, h.cnt, fun k hk => ?_, fun k hk => ?_⟩
  · show laT R S' R.n l = perWear D (linesOf S) l
    have hl : l < D.n := hl
    unfold laT perWear
    rw [← linesOf_congr hs hl, h.wear l hl, h.n]
    by_cases e : linesOf S l = true
    · rw [if_pos ⟨hl, e⟩, if_pos e]
    · rw [if_neg (fun q => e q.2), if_neg e]
  · show (laW R S' (8 * R.n) k).m = perMed D S k
    have hk : k < 8 * D.n := hk
    unfold laW perMed
    rw [← hs k hk, h.n]
    by_cases e : S k = true
    · rw [if_pos ⟨hk, e⟩]
      show (if R.bad (k / 8) = true then (R.ws k).m else (R.ws k).v) = _
      rw [h.bad (k / 8) (by omega)]
      rcases h.buf k hk with ⟨h1, _⟩ | ⟨h1, _⟩
      · exact absurd h1 (hb k e)
      · rw [h1]
        cases hbd : D.bad (k / 8) with
        | true => rw [if_pos rfl, if_neg (fun q => by cases q.2)]; exact h.med k hk
        | false => rw [if_neg (by simp), if_pos ⟨e, rfl⟩]; rfl
    · rw [if_neg (fun q => e q.2), if_neg (fun q => e q.1)]
      exact h.med k hk
  · show (perBuf D S (k : Int) = none ∧ (laW R S' (8 * R.n) k).t = false) ∨ (perBuf D S (k : Int) = some ((laW R S' (8 * R.n) k).v, (laW R S' (8 * R.n) k).f) ∧ (laW R S' (8 * R.n) k).t = true)
    have hk : k < 8 * D.n := hk
    unfold laW perBuf
    rw [← hs k hk, h.n, Int.toNat_natCast]
    by_cases e : S k = true
    · rw [if_pos ⟨by omega, e⟩, if_pos ⟨hk, e⟩]
      exact .inl ⟨rfl, rfl⟩
    · rw [if_neg (fun q => e q.2), if_neg (fun q => e q.2)]
      exact h.buf k hk
theorem Says.litS (h : Says D R) : Says (Go.Proofs.YtjbhallhmnahbaaGreat.lit D) { R with fuse := if 1 < R.fuse then R.fuse - 1 else R.fuse } := ⟨h.n, h.wear, h.bad, h.lit.2.1, h.off, h.cnt, h.med, h.buf⟩
theorem Says.fence (h : Says D R) : Says (opD D true fenceF) (fenceR R) := by
  unfold fenceR
  refine h.op true fun hr hf => ?_
  have q := h.litS.last (S := fluS D) (S' := fenS R) (fun i hi => by
    have hi : i < 8 * D.n := hi
    unfold fluS fenS
    rcases h.buf i hi with ⟨h1, h2⟩ | ⟨h1, h2⟩
    · rw [h1, h2]; rfl
    · rw [h1, h2, Bool.true_and]; rfl) (fun i e q => by
    have q : D.buf (i : Int) = none := q
    unfold fluS at e
    rw [q] at e
    cases e)
  exact ⟨q.n, q.wear, q.bad, q.fuse, q.off, h.lit.2.2, q.med, q.buf⟩
theorem Says.boot (h : Says D R) (L : List Nat) (kp : Nat → Bool) (hL : ∀ x ∈ L, D.buf (x : Int) ≠ none) : Says (bootD D L kp) (bootR R L kp) := by
  have q := h.last (S := bootS L kp) (S' := bootS L kp) (fun _ _ => rfl) (fun i e => by
    by_cases c : i ∈ L
    · exact hL i c
    · rw [bootS_no c] at e; cases e)
  refine ⟨q.n, q.wear, q.bad, rfl, rfl, q.cnt, fun k hk => ?_, fun k hk => ?_⟩
  · show (clrW (lastR R (bootS L kp)).ws (8 * R.n) k).m = _
    unfold clrW
    have e := q.med k hk
    split
    · exact e
    · exact e
  · refine .inl ⟨rfl, ?_⟩
    show (clrW (lastR R (bootS L kp)).ws (8 * R.n) k).t = false
    have hk : k < 8 * D.n := hk
    unfold clrW
    rw [h.n, if_pos hk]
theorem Says.pend (h : Says D R) (hs : ∀ z, D.buf z ≠ none → 0 ≤ z ∧ z < 8 * D.n) {L : List Nat} (hL : IsPend D L) (x : Nat) (hx : x < 8 * R.n) : x ∈ L ↔ (R.ws x).t = true := by
  rw [hL.2 x]
  rw [h.n] at hx
  rcases h.buf x hx with ⟨h1, h2⟩ | ⟨h1, h2⟩
  · rw [h1, h2]; simp
  · rw [h1, h2]; simp
theorem Says.new (n : Nat) : Says (newD n) (newRC n) := ⟨rfl, fun _ _ => rfl, fun _ _ => rfl, rfl, rfl, rfl, fun _ _ => rfl, fun _ _ => .inl ⟨rfl, rfl⟩⟩
end

/-! ### Calls -/
section
variable {r : RefA} {D : DevS} {w : World}
theorem ref_store (z : Int) (v : Nat) (h : RefIs w r D) (hc : D.cnt < 4611686018427387904) (hf : 0 ≤ D.fuse ∧ D.fuse ≤ 9223372036854775807) :
    Calls Tryz.prog 99 #[.pointer (some ⟨r.rd, 0, none⟩), .int .i64 z, .int .u64 v] w fun e w' => e = .returned (.int .i64 (opE D (isWord D z))) ∧ RefIs w' r (opD D (isWord D z) (storeF z v)) ∧ Gr r.all w w' := by
  obtain ⟨R, h1, h2⟩ := h
  refine (rstore_any r R z v w h1 (by rw [h2.cnt]; exact hc) (by rw [h2.fuse]; exact hf)).mono ?_
  rintro e w' ⟨rfl, q, g⟩
  refine ⟨?_, ⟨_, q, h2.store z v⟩, g⟩
  rw [h2.beg, h2.n]
  rfl
theorem ref_flush (z : Int) (h : RefIs w r D) (hc : D.cnt < 4611686018427387904) (hf : 0 ≤ D.fuse ∧ D.fuse ≤ 9223372036854775807) :
    Calls Tryz.prog 151 #[.pointer (some ⟨r.rd, 0, none⟩), .int .i64 z] w fun e w' => e = .returned (.int .i64 (opE D (isLine D z))) ∧ RefIs w' r (opD D (isLine D z) (flushF z)) ∧ Gr r.all w w' := by
  obtain ⟨R, h1, h2⟩ := h
  refine (rflush_any r R z w h1 (by rw [h2.cnt]; exact hc) (by rw [h2.fuse]; exact hf)).mono ?_
  rintro e w' ⟨rfl, q, g⟩
  refine ⟨?_, ⟨_, q, h2.flush z⟩, g⟩
  rw [h2.beg, h2.n]
  rfl
theorem ref_fence (h : RefIs w r D) (hc : D.cnt < 4611686018427387904) (hf : 0 ≤ D.fuse ∧ D.fuse ≤ 9223372036854775807) (hw : ∀ l, 0 ≤ D.wear l ∧ D.wear l < 4611686018427387904) :
    Calls Tryz.prog 152 #[.pointer (some ⟨r.rd, 0, none⟩)] w fun e w' => e = .returned (.int .i64 (opE D true)) ∧ RefIs w' r (opD D true fenceF) ∧ Gr r.all w w' := by
  obtain ⟨R, h1, h2⟩ := h
  refine (rfence_any r R w h1 (by rw [h2.cnt]; exact hc) (by rw [h2.fuse]; exact hf) (fun l hl => by rw [h2.wear l (by rw [← h2.n]; exact hl)]; exact hw l)).mono ?_
  rintro e w' ⟨rfl, q, g⟩
  exact ⟨by rw [h2.beg], ⟨_, q, h2.fence⟩, g⟩
theorem ref_boot (kv : Value) (kl : Nat) (kp : Nat → Bool) (L : List Nat) (h : RefIs w r D) (hk : KeepIs w kv kl kp) (hw : ∀ l, 0 ≤ D.wear l ∧ D.wear l < 4611686018427387904) (hs : ∀ z, D.buf z ≠ none → 0 ≤ z ∧ z < 8 * D.n) (hL : IsPend D L) :
    Calls Tryz.prog 29 #[.pointer (some ⟨r.rd, 0, none⟩), kv] w fun e w' => e = .returned (.tuple #[]) ∧ RefIs w' r (bootD D L kp) ∧ Gr r.all w w' := by
  obtain ⟨R, h1, h2⟩ := h
  refine (rboot_any r R kv kl kp L w h1 hk (fun l hl => by rw [h2.wear l (by rw [← h2.n]; exact hl)]; exact hw l) hL.1 (fun x hx => h2.pend hs hL x hx)).mono ?_
  rintro e w' ⟨rfl, q, g⟩
  exact ⟨rfl, ⟨_, q, h2.boot L kp fun x hx => (hL.2 x).1 hx⟩, g⟩
def loadP (D : DevS) (z : Int) : Int × Int := if reachE D (decide (0 ≤ z ∧ z < 8 * D.n)) ≠ 0 then (0, reachE D (decide (0 ≤ z ∧ z < 8 * D.n))) else ((loadV D z.toNat : Int), 0)
theorem ref_load (z : Int) (h : RefIs w r D) :
    Calls Tryz.prog 173 #[.pointer (some ⟨r.rd, 0, none⟩), .int .i64 z] w fun e w' => e = .returned (.tuple #[.int .u64 (loadP D z).1, .int .i64 (loadP D z).2]) ∧ w = w' := by
  obtain ⟨R, h1, h2⟩ := h
  have e : loadR R z = loadP D z := by
    cases ho : D.off with
    | true =>
      have l1 : loadR R z = (0, 6) := by unfold loadR; rw [h2.off, ho, if_pos rfl]
      have l2 : loadP D z = (0, 6) := by unfold loadP reachE; rw [ho]; rfl
      rw [l1, l2]
    | false =>
      by_cases hz : 0 ≤ z ∧ z < 8 * D.n
      · have l1 : loadR R z = (if (R.ws z.toNat).t then ((R.ws z.toNat).v : Int) else ((R.ws z.toNat).m : Int), 0) := by unfold loadR; rw [h2.off, ho, if_neg (by simp), if_pos (by rw [h2.n]; exact hz)]
        have l2 : loadP D z = ((loadV D z.toNat : Int), 0) := by unfold loadP reachE; rw [ho, decide_eq_true hz]; rfl
        rw [l1, l2]
        obtain ⟨i, rfl⟩ := Int.eq_ofNat_of_zero_le hz.1
        rw [Int.toNat_natCast]
        unfold loadV
        rcases h2.buf i (by omega) with ⟨q1, q2⟩ | ⟨q1, q2⟩
        · rw [q1, q2, h2.med i (by omega)]; rfl
        · rw [q1, q2]; rfl
      · have l1 : loadR R z = (0, 3) := by unfold loadR; rw [h2.off, ho, if_neg (by simp), if_neg (by rw [h2.n]; exact hz)]
        have l2 : loadP D z = (0, 3) := by unfold loadP reachE; rw [ho, decide_eq_false hz]; rfl
        rw [l1, l2]
  refine (rload_any r R z w h1).mono ?_
  rintro e' w' ⟨rfl, rfl⟩
  rw [e]
  exact ⟨rfl, rfl⟩
end

end Go.Proofs.YtjbhallhmnahbaaGreat

/-
  Layer 3's laws: does.
-/
namespace Go.Proofs.YtjbhallhmnahbaaGreat
open Go.RowKit

def Bnd (D : DevS) (c : Nat) : Prop := D.cnt ≤ c ∧ ∀ l, 0 ≤ D.wear l ∧ D.wear l ≤ (c : Int)
theorem Bnd.mono {D : DevS} {c : Nat} (h : Bnd D c) : Bnd D (c + 1) := ⟨by have := h.1; omega, fun l => by have := h.2 l; omega⟩
theorem Bnd.persist {D : DevS} {c : Nat} (h : Bnd D c) (S : Nat → Bool) (l : Nat) : 0 ≤ perWear D (linesOf S) l ∧ perWear D (linesOf S) l ≤ ((c + 1 : Nat) : Int) := by
  have := h.2 l
  unfold perWear
  have e : ∀ (p : Prop) [Decidable p], 0 ≤ (if p then D.wear l + 1 else D.wear l) ∧ (if p then D.wear l + 1 else D.wear l) ≤ ((c + 1 : Nat) : Int) := fun p _ => by split <;> omega
  exact e _
theorem Bnd.boot {D : DevS} {c : Nat} (h : Bnd D c) (L : List Nat) (kp : Nat → Bool) : Bnd (bootD D L kp) (c + 1) := ⟨by have := h.1; show D.cnt ≤ c + 1; omega, fun l => h.persist _ l⟩
theorem max0r (P : Program) (ts : Array TypeId) (t : TypeId) (y : Int) (w : World) : (Builtin.max_ ts t #[.int .i64 y, .int .i64 0]).run P w = .ok (.int .i64 (mx y)) w := by
  rw [run_max_int2]
  have : (if (0 : Int) > y then 0 else y) = mx y := by unfold mx; split <;> omega
  rw [this]
theorem cell_gr {W W' : World} {bs : List Nat} {b o : Nat} (g : Gr bs W W') (hb : b < W.heap.size) (hn : b ∉ bs) : W'.cell? ⟨b, o, none⟩ = W.cell? ⟨b, o, none⟩ := World.cell?_of_block (w := W) (g.block b hb hn)

end Go.Proofs.YtjbhallhmnahbaaGreat

/-
  The reference of layer 4: last, PutWord, Put.
-/
namespace Go.Proofs.YtjbhallhmnahbaaGreat
open Go.RowKit
set_option linter.unusedVariables false

theorem RefIs.c0 {W : World} {r : RefA} {D : DevS} (h : RefIs W r D) : W.cell? ⟨r.rd, 0, none⟩ = some (.slice (some ⟨r.rw, 0, none⟩) (8 * D.n) (8 * D.n)) := by
  obtain ⟨R, h1, h2⟩ := h
  rw [← h2.n]; exact h1.c0
theorem RefIs.c1 {W : World} {r : RefA} {D : DevS} (h : RefIs W r D) : W.cell? ⟨r.rd, 1, none⟩ = some (.slice (some ⟨r.rr, 0, none⟩) D.n D.n) := by
  obtain ⟨R, h1, h2⟩ := h
  rw [← h2.n]; exact h1.c1
theorem RefIs.c4 {W : World} {r : RefA} {D : DevS} (h : RefIs W r D) : W.cell? ⟨r.rd, 4, none⟩ = some (.bool D.off) := by
  obtain ⟨R, h1, h2⟩ := h
  rw [← h2.off]; exact h1.c4
theorem RefIs.c5 {W : World} {r : RefA} {D : DevS} (h : RefIs W r D) : W.cell? ⟨r.rd, 5, none⟩ = some (.int .i64 (D.cnt : Int)) := by
  obtain ⟨R, h1, h2⟩ := h
  rw [← h2.cnt]; exact h1.c5
theorem RefIs.hi {W : World} {r : RefA} {D : DevS} (h : RefIs W r D) : D.n ≤ 8192 := by
  obtain ⟨R, h1, h2⟩ := h
  rw [← h2.n]; exact h1.hi
def Fu (D : DevS) (c : Nat) : Prop := Bd D c ∧ 0 ≤ D.fuse ∧ D.fuse ≤ 9223372036854775807
theorem fuse_op {D : DevS} (h : 0 ≤ D.fuse ∧ D.fuse ≤ 9223372036854775807) (t : Bool) {f : DevS → DevS} (hf : (f (lit D)).fuse = (lit D).fuse) : 0 ≤ (opD D t f).fuse ∧ (opD D t f).fuse ≤ 9223372036854775807 := by
  unfold opD
  split
  · exact h
  · split
    · exact ⟨Int.le_refl _, by show (0 : Int) ≤ _; omega⟩
    · rw [hf]
      show 0 ≤ (if 1 < D.fuse then D.fuse - 1 else D.fuse) ∧ (if 1 < D.fuse then D.fuse - 1 else D.fuse) ≤ 9223372036854775807
      split <;> omega
theorem Fu.store {D : DevS} {c : Nat} (h : Fu D c) (z : Int) (v : Nat) (t : Bool) : Fu (opD D t (storeF z v)) (c + 1) := ⟨h.1.store z v t, fuse_op h.2 t rfl⟩
theorem Fu.flush {D : DevS} {c : Nat} (h : Fu D c) (z : Int) (t : Bool) : Fu (opD D t (flushF z)) (c + 1) := ⟨h.1.flush z t, fuse_op h.2 t rfl⟩
theorem Fu.fence {D : DevS} {c : Nat} (h : Fu D c) (t : Bool) : Fu (opD D t fenceF) (c + 1) := ⟨h.1.fence t, fuse_op h.2 t rfl⟩
theorem Fu.mono {D : DevS} {c c' : Nat} (h : Fu D c) (hc : c ≤ c') : Fu D c' := ⟨h.1.mono hc, h.2⟩
set_option maxRecDepth 20000 in
theorem rlast4_any (r : RefA) (D : DevS) (l c : Nat) (w : World) (h : RefIs w r D) (hb : Fu D c) (hc : c < 1000000) :
    Calls Tryz.prog 100 #[.pointer (some ⟨r.rd, 0, none⟩), .int .i64 (l : Int)] w fun e w' => e = .returned (.int .i64 (finS l D).1) ∧ RefIs w' r (finS l D).2 ∧ Gr r.all w w' := by
  have HS := Lib.hid (ref_flush (l : Int) h (by have := hb.1.1; omega) hb.2)
  have HB := Lib.hid hb
  obtain ⟨T, hT⟩ : ∃ T, finS l D = T := ⟨_, rfl⟩
  rw [hT]
  unfold finS at hT
  clear h hb
  by_cases he : opE D (isLine D (l : Int)) = 0
  · rw [he] at HS
    have HT := Lib.hid (hT.symm.trans (if_pos he))
    clear he hT
    go_enter Tryz.func100, Tryz.ntmps100
    go_wp2_with fail
    refine HS.out.mono ?_
    rintro e w3 ⟨rfl, r3, g3⟩
    have b3 := HB.out.flush (l : Int) (isLine D (l : Int))
    have HS := Lib.hid (ref_fence r3 (by have := b3.1.1; omega) b3.2 (fun x => by have := b3.1.2 x; omega))
    have HN := Lib.hid g3
    clear r3 g3 b3
    go_wp2_with fail
    refine HS.out.mono ?_
    rintro e w4 ⟨rfl, r4, g4⟩
    have HN := Lib.hid (And.intro r4 (HN.out.trans g4))
    clear r4 g4 HS
    go_wp2_with fail
    go_ret
    rw [HT.out]
    exact ⟨rfl, HN.out.1, HN.out.2⟩
  · have HT := Lib.hid (hT.symm.trans (if_neg he))
    obtain ⟨ev, hev⟩ : ∃ ev, opE D (isLine D (l : Int)) = ev := ⟨_, rfl⟩
    rw [hev] at he HS HT
    have he2 : (ev == 0) = false := by simpa using he
    clear he hev hT
    go_enter Tryz.func100, Tryz.ntmps100
    go_wp2_with fail
    refine HS.out.mono ?_
    rintro e w3 ⟨rfl, r3, g3⟩
    have HN := Lib.hid (And.intro r3 g3)
    clear r3 g3 HS
    go_wp2_with fail
    go_ret
    rw [HT.out]
    exact ⟨rfl, HN.out.1, HN.out.2⟩

set_option maxRecDepth 20000 in
set_option maxHeartbeats 2000000 in
theorem rputword_any (r : RefA) (D : DevS) (z k : Int) (v c : Nat) (w : World) (h : RefIs w r D) (hb : Fu D c) (hc : c < 900000) :
    Calls Tryz.prog 153 #[.pointer (some ⟨r.rd, 0, none⟩), .int .i64 z, .int .i64 k, .int .u64 (v : Int)] w fun e w' => e = .returned (.int .i64 (pwE D z k v).1) ∧ RefIs w' r (pwE D z k v).2 ∧ Gr r.all w w' := by
  have HD := Lib.hid h
  have HB := Lib.hid hb
  by_cases hk0 : k < 0
  · have HE := Lib.hid (show pwE D z k v = (2, D) by unfold pwE; rw [if_pos (.inl hk0)])
    have hd : decide (k < 0) = true := by simpa using hk0
    clear h hb hk0
    go_enter Tryz.func153, Tryz.ntmps153
    go_wp2_with fail
    go_ret
    rw [HE.out]
    exact ⟨rfl, HD.out, Gr.refl _ _⟩
  · have hd : decide (k < 0) = false := by simpa using hk0
    by_cases hk7 : 7 < k
    · have HE := Lib.hid (show pwE D z k v = (2, D) by unfold pwE; rw [if_pos (.inr hk7)])
      have hd2 : decide ((7 : Int) < k) = true := by simpa using hk7
      clear h hb hk0 hk7
      go_enter Tryz.func153, Tryz.ntmps153
      go_wp2_with fail
      go_ret
      rw [HE.out]
      exact ⟨rfl, HD.out, Gr.refl _ _⟩
    · have hd2 : decide ((7 : Int) < k) = false := by simpa using hk7
      have c1 := h.c1
      have hn := h.hi
      cases hl : isLine D z with
      | false =>
        have HE := Lib.hid (show pwE D z k v = (3, D) by unfold pwE; rw [if_neg (by omega), hl]; rfl)
        have hz : ¬ (0 ≤ z ∧ z < D.n) := by unfold isLine at hl; exact of_decide_eq_false hl
        have hds : decide (z < 0) = true ∨ (decide (z < 0) = false ∧ decide ((D.n : Int) ≤ z) = true) := by
          by_cases h0 : z < 0
          · exact .inl (by simpa using h0)
          · exact .inr ⟨by simpa using h0, by simp; omega⟩
        clear h hb hk0 hk7 hl hz
        generalize D.n = n at *
        rcases hds with d1 | ⟨d1, d2⟩
        all_goals
          go_enter Tryz.func153, Tryz.ntmps153
          go_wp2_with fail
          go_ret
          rw [HE.out]
          exact ⟨rfl, HD.out, Gr.refl _ _⟩
      | true =>
        have hz : 0 ≤ z ∧ z < D.n := by unfold isLine at hl; exact of_decide_eq_true hl
        obtain ⟨l, rfl⟩ := Int.eq_ofNat_of_zero_le hz.1
        obtain ⟨q, rfl⟩ := Int.eq_ofNat_of_zero_le (show 0 ≤ k by omega)
        obtain ⟨T, hT⟩ : ∃ T, stos l q (fun _ => v) 1 0 D = T := ⟨_, rfl⟩
        have HE := Lib.hid (show pwE D (l : Int) (q : Int) v = T by unfold pwE; rw [if_neg (by omega), if_pos hl, Int.toNat_natCast, Int.toNat_natCast]; exact hT)
        have d1 : decide ((l : Int) < 0) = false := by simp
        have d2 : decide ((D.n : Int) ≤ (l : Int)) = false := by simp; omega
        have d2n : decide (D.n ≤ l) = false := by simp; omega
        have d2m : ¬ D.n ≤ l := by omega
        obtain ⟨x, hx⟩ : ∃ x : Nat, x = 8 * l + q + 0 := ⟨_, rfl⟩
        have hx2 : 8 * (l : Int) + (q : Int) = (x : Int) := by omega
        have hx3 : x ≤ 70000 := by omega
        have hl3 : l ≤ 8192 := by omega
        unfold stos at hT
        rw [← hx] at hT
        have HS := Lib.hid (ref_store (x : Int) v h (by have := hb.1.1; omega) hb.2)
        clear h hb hk0 hk7 hl hz hx
        generalize D.n = n at *
        by_cases he : opE D (isWord D (x : Int)) = 0
        · rw [he] at HS
          have HT := Lib.hid (hT.symm.trans (if_pos he))
          clear he hT
          go_enter Tryz.func153, Tryz.ntmps153
          go_wp2_with fail
          refine HS.out.mono ?_
          rintro e w3 ⟨rfl, r3, g3⟩
          have HL := Lib.hid (rlast4_any r _ l (c + 1) w3 r3 (HB.out.store (x : Int) v (isWord D (x : Int))) (by omega))
          have HN := Lib.hid g3
          clear r3 g3 HS
          go_wp2_with fail
          refine HL.out.mono ?_
          rintro e w4 ⟨rfl, r4, g4⟩
          have HN := Lib.hid (And.intro r4 (HN.out.trans g4))
          clear r4 g4
          go_wp2_with fail
          go_ret
          rw [HE.out, HT.out]
          exact ⟨rfl, HN.out.1, HN.out.2⟩
        · have HT := Lib.hid (hT.symm.trans (if_neg he))
          obtain ⟨ev, hev⟩ : ∃ ev, opE D (isWord D (x : Int)) = ev := ⟨_, rfl⟩
          rw [hev] at he HS HT
          have he2 : (ev == 0) = false := by simpa using he
          clear he hev hT
          go_enter Tryz.func153, Tryz.ntmps153
          go_wp2_with fail
          refine HS.out.mono ?_
          rintro e w3 ⟨rfl, r3, g3⟩
          have HN := Lib.hid (And.intro r3 g3)
          clear r3 g3 HS
          go_wp2_with fail
          go_ret
          rw [HE.out, HT.out]
          exact ⟨rfl, HN.out.1, HN.out.2⟩

/-! ### Put -/
theorem ext_word (s : ByteArray) (k : Nat) : getL ((s.extract (8 * k) (8 * k + 8)).data.toList.take 8) = wdL s.data.toList k := by
  rw [ext8, List.take_take, Nat.min_self]
  rfl
set_option maxRecDepth 20000 in
set_option maxHeartbeats 2000000 in
theorem rput4_any (r : RefA) (D : DevS) (z : Int) (s : ByteArray) (c : Nat) (w : World) (h : RefIs w r D) (hb : Fu D c) (hc : c < 900000) (hs : s.size ≤ maxLen) :
    Calls Tryz.prog 50 #[.pointer (some ⟨r.rd, 0, none⟩), .int .i64 z, .string s] w fun e w' => e = .returned (.int .i64 (putE D z s).1) ∧ RefIs w' r (putE D z s).2 ∧ Gr r.all w w' := by
  have HD := Lib.hid h
  have HB := Lib.hid hb
  have c1 := h.c1
  have hn := h.hi
  have HML := Lib.hid (show (8 : Nat) ≤ maxLen by unfold maxLen; omega)
  unfold maxLen at hs
  by_cases hsz : s.size = 64
  · cases hl : isLine D z with
    | false =>
      have HE := Lib.hid (show putE D z s = (3, D) by unfold putE; rw [if_neg (by simp [hsz]), hl]; rfl)
      have hz : ¬ (0 ≤ z ∧ z < D.n) := by unfold isLine at hl; exact of_decide_eq_false hl
      have hds : decide (z < 0) = true ∨ (decide (z < 0) = false ∧ decide ((D.n : Int) ≤ z) = true) := by
        by_cases h0 : z < 0
        · exact .inl (by simpa using h0)
        · exact .inr ⟨by simpa using h0, by simp; omega⟩
      clear h hb hl hz
      generalize D.n = n at *
      rcases hds with d1 | ⟨d1, d2⟩
      all_goals
        go_enter Tryz.func50, Tryz.ntmps50
        go_wp2_with fail
        go_ret
        rw [HE.out]
        exact ⟨rfl, HD.out, Gr.refl _ _⟩
    | true =>
      have hz : 0 ≤ z ∧ z < D.n := by unfold isLine at hl; exact of_decide_eq_true hl
      obtain ⟨l, rfl⟩ := Int.eq_ofNat_of_zero_le hz.1
      obtain ⟨T, hT⟩ : ∃ T, stos l 0 (wdL s.data.toList) 8 0 D = T := ⟨_, rfl⟩
      have HE := Lib.hid (show putE D (l : Int) s = T by unfold putE; rw [if_neg (by simp [hsz]), if_pos hl, Int.toNat_natCast]; exact hT)
      have d1 : decide ((l : Int) < 0) = false := by simp
      have d2 : decide ((D.n : Int) ≤ (l : Int)) = false := by simp; omega
      have d2n : decide (D.n ≤ l) = false := by simp; omega
      have d2m : ¬ D.n ≤ l := by omega
      have hl3 : l ≤ 8192 := by omega
      have HT := Lib.hid hT
      clear h hb hl hz hT
      generalize D.n = n at *
      go_enter Tryz.func50, Tryz.ntmps50
      go_wp2_with fail
      clear c1
      go_loopw [7] (fun u wr => ∃ (i : Nat) (D' : DevS), i ≤ 8 ∧ u = .int .i64 (i : Int) ∧ T = stos l 0 (wdL s.data.toList) (8 - i) i D' ∧ RefIs wr r D' ∧ Fu D' (c + i) ∧ Gr r.all w wr) (fun u _ => 8 - (intOf u).toNat)
      case atStart => exact ⟨0, D, by omega, rfl, HT.out.symm, HD.out, HB.out, Gr.refl _ _⟩
      case round =>
        clear HT HD HB
        obtain ⟨i, D', hi, rfl, hT, r2, b2, g2⟩ := hrel
        by_cases hlt : i < 8
        · have hd : decide ((i : Int) < 8) = true := by simp; omega
          obtain ⟨q, hq⟩ : ∃ q : Nat, q = 8 * i := ⟨_, rfl⟩
          have hqz : 8 * (i : Int) = (q : Int) := by omega
          have hq0 : (0 : Int) ≤ (q : Int) := by omega
          have hq1 : (q : Int) ≤ (q : Int) + 8 := by omega
          have hq2 : (q : Int) + 8 ≤ 64 := by omega
          have hn8 : ((q : Int) + 8).toNat = q + 8 := by omega
          have HGt := Lib.hid (rget_any (s.extract q (q + 8)) wr (by rw [ByteArray.size_extract]; exact Nat.le_trans (show min (q + 8) s.size - q ≤ 8 by omega) HML.out))
          rw [hq, ext_word s i] at HGt
          rw [← hq] at HGt
          obtain ⟨x, hx⟩ : ∃ x : Nat, x = 8 * l + 0 + i := ⟨_, rfl⟩
          have hx2 : 8 * (l : Int) + (i : Int) = (x : Int) := by omega
          rw [show 8 - i = (8 - i - 1) + 1 by omega] at hT
          unfold stos at hT
          rw [← hx] at hT
          obtain ⟨V, hV⟩ : ∃ V, wdL s.data.toList i = V := ⟨_, rfl⟩
          rw [hV] at hT HGt
          have HS := Lib.hid (fun W (g : Gr [] wr W) => ref_store (x : Int) V (r2.gr0 g) (by have := b2.1.1; omega) b2.2)
          have HT := Lib.hid hT
          have HB := Lib.hid (And.intro b2 g2)
          clear r2 b2 g2 hT hx hV hq
          by_cases he : opE D' (isWord D' (x : Int)) = 0
          · rw [he] at HS
            have HT := Lib.hid (HT.out.trans (if_pos he))
            clear he
            go_wp2_with fail
            refine HGt.out.mono ?_
            rintro e w3 ⟨rfl, rfl⟩
            have HQ := Lib.hid (Gr.refl [] wr)
            go_wp2_with fail
            refine (HS.out _ HQ.out).mono ?_
            rintro e w4 ⟨rfl, r4, g4⟩
            have HN := Lib.hid (And.intro r4 (And.intro (HB.out.1.store (x : Int) V (isWord D' (x : Int))) ((HB.out.2.next0 HQ.out).trans g4)))
            clear r4 g4 HS
            go_wp2_with fail
            go_roundw
            case rel => exact ⟨i + 1, _, by omega, by go_num, by rw [show 8 - (i + 1) = 8 - i - 1 by omega]; exact HT.out, HN.out.1, HN.out.2.1, HN.out.2.2⟩
            case measure => simp [intOf]; omega
          · have HT := Lib.hid (HT.out.trans (if_neg he))
            obtain ⟨ev, hev⟩ : ∃ ev, opE D' (isWord D' (x : Int)) = ev := ⟨_, rfl⟩
            rw [hev] at he HS HT
            have he2 : (ev == 0) = false := by simpa using he
            clear he hev
            go_wp2_with fail
            refine HGt.out.mono ?_
            rintro e w3 ⟨rfl, rfl⟩
            have HQ := Lib.hid (Gr.refl [] wr)
            go_wp2_with fail
            refine (HS.out _ HQ.out).mono ?_
            rintro e w4 ⟨rfl, r4, g4⟩
            have HN := Lib.hid (And.intro r4 ((HB.out.2.next0 HQ.out).trans g4))
            clear r4 g4 HS
            go_wp2_with fail
            go_ret
            rw [HE.out, HT.out]
            exact ⟨rfl, HN.out.1, HN.out.2⟩
        · obtain rfl : i = 8 := by omega
          have HT := Lib.hid (show T = finS l D' from hT)
          have HL := Lib.hid (rlast4_any r D' l (c + 8) wr r2 b2 (by omega))
          have HG := Lib.hid g2
          clear r2 b2 g2 hT
          rw [show ((8 : Nat) : Int) = 8 from rfl]
          go_wp2_with fail
          refine HL.out.mono ?_
          rintro e w4 ⟨rfl, r4, g4⟩
          have HN := Lib.hid (And.intro r4 (HG.out.trans g4))
          clear r4 g4
          go_wp2_with fail
          go_ret
          rw [HE.out, HT.out]
          exact ⟨rfl, HN.out.1, HN.out.2⟩
  · have HE := Lib.hid (show putE D z s = (2, D) by unfold putE; rw [if_pos hsz])
    have d3 : ((s.size : Int) != 64) = true := by simp; omega
    have d4 : ((s.size : Int) == 64) = false := by simp; omega
    clear h hb hsz
    go_enter Tryz.func50, Tryz.ntmps50
    go_wp2_with fail
    go_ret
    rw [HE.out]
    exact ⟨rfl, HD.out, Gr.refl _ _⟩

end Go.Proofs.YtjbhallhmnahbaaGreat
