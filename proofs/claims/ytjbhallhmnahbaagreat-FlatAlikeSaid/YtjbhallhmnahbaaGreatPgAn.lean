/-
  PgAn: LnI, SpAa, SpG, SpH, SpI.
-/
import Derived.Test.YtjbhallhmnahbaaGreatPgAm
import Derived.Test.YtjbhallhmnahbaaGreatPgAl
import Derived.Test.YtjbhallhmnahbaaGreatPgAk
import Derived.Deep.CutBlock

/-
  LineTorn: what is left where the power fails.
-/
namespace Go.Proofs.YtjbhallhmnahbaaGreat
open Go.RowKit

/-- One line; each word lasts as it was or as it is to be; what is pending is to be. -/
structure Tor (D : DevS) (P Q : Nat → Nat) : Prop where
  n : D.n = 1
  bad : D.bad 0 = false
  med : ∀ k, k < 8 → D.med k = P k ∨ D.med k = Q k
  buf : ∀ k : Nat, k < 8 → D.buf (k : Int) = none ∨ ∃ f, D.buf (k : Int) = some (Q k, f)
theorem Tor.lit {D : DevS} {P Q : Nat → Nat} (h : Tor D P Q) : Tor (lit D) P Q := ⟨h.n, h.bad, h.med, h.buf⟩
theorem Tor.store {D : DevS} {P Q : Nat → Nat} (h : Tor D P Q) (i : Nat) (v : Nat) (hv : v = Q i) : Tor (storeF (i : Int) v D) P Q := by
  refine ⟨h.n, h.bad, h.med, fun k hk => ?_⟩
  show updZ D.buf (i : Int) (some (v, false)) (k : Int) = none ∨ _
  unfold updZ
  by_cases e : (k : Int) = (i : Int)
  · obtain rfl : k = i := by omega
    rw [if_pos e]
    exact .inr ⟨false, by show updZ D.buf (k : Int) (some (v, false)) (k : Int) = _; unfold updZ; rw [if_pos rfl, hv]⟩
  · rw [if_neg e]
    rcases h.buf k hk with q | ⟨f, q⟩
    · exact .inl q
    · exact .inr ⟨f, by show updZ D.buf (i : Int) (some (v, false)) (k : Int) = _; unfold updZ; rw [if_neg e]; exact q⟩
theorem Tor.flush {D : DevS} {P Q : Nat → Nat} (h : Tor D P Q) : Tor (flushF 0 D) P Q := by
  refine ⟨h.n, h.bad, h.med, fun k hk => ?_⟩
  show flF D.buf 0 8 (k : Int) = none ∨ ∃ f, flF D.buf 0 8 (k : Int) = some (Q k, f)
  unfold flF
  rw [if_pos (by omega)]
  rcases h.buf k hk with q | ⟨f, q⟩
  · rw [q]; exact .inl rfl
  · rw [q]; exact .inr ⟨true, rfl⟩
theorem Tor.persist {D : DevS} {P Q : Nat → Nat} (h : Tor D P Q) (S : Nat → Bool) (hS : ∀ k : Nat, k < 8 → S k = true → D.buf (k : Int) ≠ none) : ∀ k, k < 8 → perMed D S k = P k ∨ perMed D S k = Q k := by
  intro k hk
  unfold perMed
  by_cases c : S k = true ∧ D.bad (k / 8) = false
  · rw [if_pos c]
    rcases h.buf k hk with q | ⟨f, q⟩
    · exact absurd q (hS k hk c.1)
    · rw [q]; exact .inr rfl
  · rw [if_neg c]; exact h.med k hk
theorem Tor.fence {D : DevS} {P Q : Nat → Nat} (h : Tor D P Q) : Tor (fenceF D) P Q := by
  refine ⟨h.n, h.bad, h.persist (fluS D) (fun k hk e q => by unfold fluS at e; rw [q] at e; cases e), fun k hk => ?_⟩
  show perBuf D (fluS D) (k : Int) = none ∨ ∃ f, perBuf D (fluS D) (k : Int) = some (Q k, f)
  unfold perBuf
  split
  · exact .inl rfl
  · exact h.buf k hk
theorem op_cases {D : DevS} {t : Bool} (ho : D.off = false) (ht : t = true) : (opE D t = 6 ∧ ∀ f, opD D t f = { D with fuse := 0, off := true }) ∨ (opE D t = 0 ∧ ∀ f, opD D t f = f (lit D)) := by
  have hr : reachE D t = 0 := by unfold reachE; rw [ho, ht]; rfl
  by_cases hf : D.fuse = 1
  · exact .inl ⟨opE_fuse hr hf, fun f => opD_fuse hr hf⟩
  · exact .inr ⟨opE_ok hr hf, fun f => opD_ok hr hf⟩
theorem Tor.boot {D : DevS} {P Q : Nat → Nat} (h : Tor D P Q) {L : List Nat} (kp : Nat → Bool) (hL : IsPend D L) : (∀ k, k < 8 → (bootD D L kp).med k = P k ∨ (bootD D L kp).med k = Q k) ∧ Calm (bootD D L kp) ∧ (bootD D L kp).n = 1 ∧ ∀ k, k < 8 → D.med k = Q k → (bootD D L kp).med k = Q k := by
  have hS : ∀ k : Nat, bootS L kp k = true → D.buf (k : Int) ≠ none := fun k e => by
    by_cases c : k ∈ L
    · exact (hL.2 k).1 c
    · exfalso
      have : bootS L kp k = false := by
        unfold bootS
        rw [List.any_eq_false]
        intro j _ e
        rw [Bool.and_eq_true, decide_eq_true_eq] at e
        exact c (List.mem_of_getElem? e.2)
      rw [this] at e
      cases e
  refine ⟨h.persist _ fun k _ => hS k, ⟨rfl, rfl, fun _ => rfl⟩, h.n, fun k hk q => ?_⟩
  show perMed D (bootS L kp) k = Q k
  unfold perMed
  by_cases c : bootS L kp k = true ∧ D.bad (k / 8) = false
  · rw [if_pos c]
    rcases h.buf k hk with r | ⟨f, r⟩
    · exact absurd r (hS k c.1)
    · rw [r]; rfl
  · rw [if_neg c]; exact q

/-! ### The texts -/
theorem bytes_eq {x y : ByteArray} (hx : x.size = 64) (hy : y.size = 64) (h : ∀ k, k < 8 → wdL x.data.toList k = wdL y.data.toList k) : x = y := by
  apply ByteArray.ext
  apply Array.ext'
  have e1 := cat_wdL 8 x.data.toList hx
  have e2 := cat_wdL 8 y.data.toList hy
  rw [← e1, ← e2]
  congr 1
  apply List.map_congr_left
  intro k hk
  exact h k (by simpa using hk)
end Go.Proofs.YtjbhallhmnahbaaGreat

/-
  Layer 5: a Put or PutWord on a device that may have a fuse: done whole, or cut before its fence.
-/
namespace Go.Proofs.YtjbhallhmnahbaaGreat
open Go.RowKit
set_option linter.unusedVariables false

structure Live (D : DevS) : Prop where
  off : D.off = false
  buf : ∀ z, D.buf z = none
structure StoL (D D' : DevS) (B i : Nat) (f : Nat → Nat) : Prop where
  n : D'.n = D.n
  off : D'.off = false
  bad : D'.bad = D.bad
  med : D'.med = D.med
  buf : ∀ z : Int, D'.buf z = if (B : Int) ≤ z ∧ z < (B : Int) + i then some (f (z - B).toNat, false) else none
/-- Done whole. -/
structure Whole (D E : DevS) (l B m : Nat) (f : Nat → Nat) : Prop where
  live : Live E
  n : E.n = D.n
  bad : E.bad = D.bad
  med : ∀ x, E.med x = if B ≤ x ∧ x < B + m ∧ D.bad l = false then f (x - B) else D.med x
/-- Cut: nothing lasts yet, some of it is pending. -/
structure Torn (D E : DevS) (B m : Nat) (f : Nat → Nat) : Prop where
  off : E.off = true
  n : E.n = D.n
  bad : E.bad = D.bad
  med : E.med = D.med
  pend : ∀ z v, E.buf z = some v → ∃ j, j < m ∧ z = ((B + j : Nat) : Int) ∧ v.1 = f j
theorem StoL.torn {D D' : DevS} {B i m : Nat} {f : Nat → Nat} (h : StoL D D' B i f) (hi : i ≤ m) : Torn D { D' with fuse := 0, off := true } B m f :=
  ⟨rfl, h.n, h.bad, h.med, fun z v hz => by
    have hz2 : D'.buf z = some v := hz
    rw [h.buf z] at hz2
    split at hz2
    · rename_i c
      injection hz2 with hz2
      exact ⟨(z - B).toNat, by omega, by omega, by rw [← hz2]⟩
    · cases hz2⟩
theorem stos_any (D : DevS) (l k m : Nat) (f : Nat → Nat) (hl : l < D.n) (hk : k + m ≤ 8) : ∀ (r i : Nat) (D' : DevS), i + r = m → StoL D D' (8 * l + k) i f →
    (∃ E, stos l k f r i D' = (0, E) ∧ Whole D E l (8 * l + k) m f) ∨ (∃ E, stos l k f r i D' = (6, E) ∧ Torn D E (8 * l + k) m f)
  | 0, i, D', hi, h => by
    obtain rfl : i = m := by omega
    unfold stos finS
    rcases op_cases (D := D') (t := isLine D' (l : Int)) h.off (by unfold isLine; rw [decide_eq_true_eq, h.n]; omega) with ⟨h1, h2⟩ | ⟨h1, h2⟩
    · rw [h1, if_neg (by omega), h2]
      exact .inr ⟨_, rfl, h.torn (Nat.le_refl _)⟩
    · rw [h1, if_pos rfl, h2]
      obtain ⟨D2, hD2⟩ : ∃ D2, D2 = flushF (l : Int) (lit D') := ⟨_, rfl⟩
      rw [← hD2]
      have o2 : D2.off = false := by rw [hD2]; exact h.off
      have b2 : ∀ z : Int, D2.buf z = if ((8 * l + k : Nat) : Int) ≤ z ∧ z < ((8 * l + k : Nat) : Int) + i then some (f (z - ((8 * l + k : Nat) : Int)).toNat, true) else none := fun z => by
        rw [hD2]
        show flF D'.buf ((l : Int).toNat) 8 z = _
        rw [Int.toNat_natCast]
        unfold flF
        rw [h.buf z]
        by_cases c : ((8 * l + k : Nat) : Int) ≤ z ∧ z < ((8 * l + k : Nat) : Int) + i
        · rw [if_pos c, if_pos c, if_pos (by omega)]; rfl
        · rw [if_neg c, if_neg c]; split <;> rfl
      have n2 : D2.n = D.n := by rw [hD2]; exact h.n
      have bd2 : D2.bad = D.bad := by rw [hD2]; exact h.bad
      have md2 : D2.med = D.med := by rw [hD2]; exact h.med
      rcases op_cases (D := D2) (t := true) o2 rfl with ⟨q1, q2⟩ | ⟨q1, q2⟩
      · rw [q1, q2]
        refine .inr ⟨_, rfl, rfl, n2, bd2, md2, fun z v hz => ?_⟩
        have hz2 : D2.buf z = some v := hz
        rw [b2 z] at hz2
        split at hz2
        · injection hz2 with hz2
          exact ⟨(z - ((8 * l + k : Nat) : Int)).toNat, by omega, by omega, by rw [← hz2]⟩
        · cases hz2
      · rw [q1, q2]
        obtain ⟨D3, hD3⟩ : ∃ D3, D3 = lit D2 := ⟨_, rfl⟩
        rw [← hD3]
        have b3 : D3.buf = D2.buf := by rw [hD3]; rfl
        have n3 : D3.n = D.n := by rw [hD3]; exact n2
        have bd3 : D3.bad = D.bad := by rw [hD3]; exact bd2
        have md3 : D3.med = D.med := by rw [hD3]; exact md2
        have o3 : D3.off = false := by rw [hD3]; exact o2
        have s3 : ∀ x : Nat, fluS D3 x = decide (8 * l + k ≤ x ∧ x < 8 * l + k + i) := fun x => by
          unfold fluS
          rw [b3, b2]
          by_cases c : 8 * l + k ≤ x ∧ x < 8 * l + k + i
          · rw [if_pos (by omega), decide_eq_true c]; rfl
          · rw [if_neg (by omega), decide_eq_false c]; rfl
        refine .inl ⟨fenceF D3, rfl, ⟨o3, fun z => ?_⟩, n3, bd3, fun x => ?_⟩
        · show perBuf D3 (fluS D3) z = none
          unfold perBuf
          rw [s3, b3, b2]
          by_cases c : ((8 * l + k : Nat) : Int) ≤ z ∧ z < ((8 * l + k : Nat) : Int) + i
          · rw [if_pos ⟨by omega, by rw [decide_eq_true_eq]; omega⟩]
          · rw [if_neg c]; split <;> rfl
        · show perMed D3 (fluS D3) x = _
          unfold perMed
          rw [s3, b3, b2, bd3, md3]
          by_cases c : 8 * l + k ≤ x ∧ x < 8 * l + k + i
          · rw [decide_eq_true c, if_pos (show ((8 * l + k : Nat) : Int) ≤ (x : Int) ∧ (x : Int) < ((8 * l + k : Nat) : Int) + i by omega), show x / 8 = l by omega]
            cases hbl : D.bad l with
            | true => rw [if_neg (by simp), if_neg (by simp)]
            | false =>
              rw [if_pos ⟨rfl, rfl⟩, if_pos ⟨c.1, c.2, rfl⟩]
              show f ((x : Int) - ((8 * l + k : Nat) : Int)).toNat = _
              congr 1
              omega
          · rw [decide_eq_false c, if_neg (by simp), if_neg (fun e => c ⟨e.1, e.2.1⟩)]
  | r + 1, i, D', hi, h => by
    unfold stos
    rcases op_cases (D := D') (t := isWord D' ((8 * l + k + i : Nat) : Int)) h.off (by unfold isWord; rw [decide_eq_true_eq, h.n]; omega) with ⟨h1, h2⟩ | ⟨h1, h2⟩
    · rw [h1, if_neg (by omega), h2]
      exact .inr ⟨_, rfl, h.torn (by omega)⟩
    · rw [h1, if_pos rfl, h2]
      refine stos_any D l k m f hl hk r (i + 1) _ (by omega) ⟨h.n, h.off, h.bad, h.med, fun z => ?_⟩
      show updZ D'.buf ((8 * l + k + i : Nat) : Int) (some (f i, false)) z = _
      unfold updZ
      by_cases e : z = ((8 * l + k + i : Nat) : Int)
      · subst e
        rw [if_pos rfl, if_pos (by omega)]
        congr 3
        omega
      · rw [if_neg e, h.buf z]
        by_cases c : ((8 * l + k : Nat) : Int) ≤ z ∧ z < ((8 * l + k : Nat) : Int) + i
        · rw [if_pos c, if_pos (by omega)]
        · rw [if_neg c, if_neg (by omega)]
theorem StoL.start {D : DevS} (h : Live D) (B : Nat) (f : Nat → Nat) : StoL D D B 0 f := ⟨rfl, h.off, rfl, rfl, fun z => by rw [if_neg (by omega)]; exact h.buf z⟩
theorem put_live {D : DevS} {l : Nat} {s : ByteArray} (h : Live D) (hl : l < D.n) (hs : s.size = 64) :
    (∃ E, putE D (l : Int) s = (0, E) ∧ Whole D E l (8 * l) 8 (wdL s.data.toList)) ∨ (∃ E, putE D (l : Int) s = (6, E) ∧ Torn D E (8 * l) 8 (wdL s.data.toList)) := by
  unfold putE
  rw [if_neg (by simp [hs]), if_pos (by unfold isLine; rw [decide_eq_true_eq]; omega), Int.toNat_natCast]
  exact stos_any D l 0 8 (wdL s.data.toList) hl (by omega) 8 0 D (by omega) (.start h _ _)
theorem putword_live {D : DevS} {l k v : Nat} (h : Live D) (hl : l < D.n) (hk : k < 8) :
    (∃ E, pwE D (l : Int) (k : Int) v = (0, E) ∧ Whole D E l (8 * l + k) 1 (fun _ => v)) ∨ (∃ E, pwE D (l : Int) (k : Int) v = (6, E) ∧ Torn D E (8 * l + k) 1 (fun _ => v)) := by
  unfold pwE
  rw [if_neg (by omega), if_pos (by unfold isLine; rw [decide_eq_true_eq]; omega), Int.toNat_natCast, Int.toNat_natCast]
  exact stos_any D l k 1 (fun _ => v) hl (by omega) 1 0 D (by omega) (.start h _ _)
end Go.Proofs.YtjbhallhmnahbaaGreat

/-
  Layer 5: Format.
-/
namespace Go.Proofs.YtjbhallhmnahbaaGreat
open Go.RowKit

def zeroT : ByteArray := ⟨(catL [0, 0, 0, 0, 0, 0, 0, 0]).toArray⟩
theorem zeroT_size : zeroT.size = 64 := by
  show (catL _).toArray.size = 64
  rw [List.size_toArray, catL_length]; rfl
theorem zeroT_word {k : Nat} (h : k < 8) : wdL zeroT.data.toList k = 0 := by
  rcases (show k = 0 ∨ k = 1 ∨ k = 2 ∨ k = 3 ∨ k = 4 ∨ k = 5 ∨ k = 6 ∨ k = 7 by omega) with rfl | rfl | rfl | rfl | rfl | rfl | rfl | rfl <;> decide +kernel
/-- A device that is formatted, its first lines. -/
def fmtD (p : PlanZ) : Nat → DevS → DevS
  | 0, D => D
  | k + 1, D => (putE (fmtD p k D) (p.a + (k : Int)) zeroT).2
structure Zero (D : DevS) : Prop where
  calm : Calm D
  med : ∀ x, D.med x = 0
theorem zero_new (n : Nat) : Zero (newD n) := ⟨⟨rfl, rfl, fun _ => rfl⟩, fun _ => rfl⟩
theorem fmt_zero {p : PlanZ} {D : DevS} (h : Zero D) (ha : 0 ≤ p.a) : ∀ k : Nat, p.a + (k : Int) ≤ (D.n : Int) → Zero (fmtD p k D) ∧ (fmtD p k D).n = D.n ∧ (fmtD p k D).bad = D.bad
  | 0, _ => ⟨h, rfl, rfl⟩
  | k + 1, hk => by
    obtain ⟨h1, h2, h3⟩ := fmt_zero h ha k (by omega)
    obtain ⟨l, hl⟩ : ∃ l : Nat, p.a + (k : Int) = (l : Int) := ⟨(p.a + (k : Int)).toNat, by omega⟩
    obtain ⟨E, e1, e2⟩ := put_calm (l := l) h1.calm (by rw [h2]; omega) zeroT_size
    have he : fmtD p (k + 1) D = E := by show (putE (fmtD p k D) (p.a + (k : Int)) zeroT).2 = E; rw [hl, e1]
    rw [he]
    refine ⟨⟨e2.calm, fun x => ?_⟩, e2.n.trans h2, e2.bad.trans h3⟩
    rw [e2.med]
    split
    · rename_i hx
      exact zeroT_word (by omega)
    · exact h1.med x
theorem fmt_put {p : PlanZ} {D : DevS} (h : Zero D) (ha : 0 ≤ p.a) (k : Nat) (hk : p.a + (k : Int) < (D.n : Int)) : (putE (fmtD p k D) (p.a + (k : Int)) zeroT).1 = 0 := by
  obtain ⟨h1, h2, h3⟩ := fmt_zero h ha k (by omega)
  obtain ⟨l, hl⟩ : ∃ l : Nat, p.a + (k : Int) = (l : Int) := ⟨(p.a + (k : Int)).toNat, by omega⟩
  obtain ⟨E, e1, e2⟩ := put_calm (l := l) h1.calm (by rw [h2]; omega) zeroT_size
  rw [hl, e1]
theorem check_ok {p : PlanZ} {n : Int} (h : checkZ p n = 0) : okZ p = true ∧ p.a + sizeZ p ≤ n := by
  unfold checkZ at h
  by_cases hp : okZ p = true
  · rw [if_pos hp] at h
    refine ⟨hp, ?_⟩
    by_cases hn : n < p.a + sizeZ p
    · rw [if_pos hn] at h; omega
    · omega
  · rw [if_neg hp] at h; omega
section
variable {w : World} {a : DevA} {D : DevS} {p : PlanZ} {c : Nat}
theorem linesK {W : World} (h : DevIs W a D) : Calls Tryz.prog 43 #[.pointer (some ⟨a.bd, 0, none⟩)] W fun e w' => e = .returned (.int .i64 D.n) ∧ Below W.heap.size W w' :=
  (lines_any a D W h).mono (by rintro e w' ⟨rfl, rfl⟩; exact ⟨rfl, Below.refl _ _⟩)
theorem DevIs.kp {W : World} (h : DevIs w a D) (x : Kp w W) : DevIs W a D := h.gr0 (Gr.ofBelow x)
set_option maxRecDepth 100000 in
set_option maxHeartbeats 8000000 in
theorem format_ok (h : DevIs w a D) (hz : Zero D) (hb : Bd D c) (hc : c < 900000) (hp : checkZ p (D.n : Int) = 0) :
    Calls Tryz.prog 91 #[.pointer (some ⟨a.bd, 0, none⟩), planV p] w fun e w' => e = .returned (.int .i64 0) ∧ DevIs w' a (fmtD p (tabZ p + p.l).toNat D) ∧ Bd (fmtD p (tabZ p + p.l).toNat D) (c + 10 * (tabZ p + p.l).toNat) ∧ Gr a.all w w' := by
  obtain ⟨hok, hsz⟩ := check_ok hp
  obtain ⟨h1, h2, h3, h4, h5, h6⟩ := (okZ_iff p).1 hok
  have ht : 0 ≤ tabZ p ∧ tabZ p ≤ 8 := by unfold tabZ; omega
  have hs : sizeZ p = tabZ p + p.l + p.s := by unfold sizeZ; rw [if_pos hok]
  obtain ⟨L, hL⟩ : ∃ L : Nat, tabZ p + p.l = (L : Int) := ⟨(tabZ p + p.l).toNat, by omega⟩
  rw [hL, Int.toNat_natCast]
  have hLn : p.a + (L : Int) ≤ (D.n : Int) := by omega
  have hL2 : L ≤ 1034 := by omega
  obtain ⟨c0, c1, c2⟩ := plan_cells p w
  have HG := Lib.hid ((Gr.refl [] w).alloc (Obj.cells #[.int .i64 p.a, .int .i64 p.l, .int .i64 p.s] 158))
  obtain ⟨w1, hw1⟩ : ∃ w1, w1 = w.alloc (Obj.cells #[.int .i64 p.a, .int .i64 p.l, .int .i64 p.s] 158) := ⟨_, rfl⟩
  obtain ⟨pb, hpb⟩ : ∃ pb, pb = w.heap.size := ⟨_, rfl⟩
  rw [← hpb] at c0 c1 c2
  have hl : pb < w1.heap.size := by rw [hpb, hw1, World.size_alloc]; omega
  have HNP := Lib.hid (show pb ∉ a.all from fun q => by have := h.lt _ q; omega)
  have HC := Lib.hid (fun W => show Calls Tryz.prog 138 #[.agg #[.int .i64 p.a, .int .i64 p.l, .int .i64 p.s], .int .i64 (D.n : Int)] W _ from check_any p (D.n : Int) W)
  have HT := Lib.hid (fun W => show Calls Tryz.prog 140 #[.agg #[.int .i64 p.a, .int .i64 p.l, .int .i64 p.s]] W _ from table_any p hok W)
  have HTx := Lib.hid (fun W => text_any 0 0 0 0 0 0 0 0 (by decide) W)
  rw [hp] at HC
  obtain ⟨t, htt⟩ : ∃ t, t = tabZ p := ⟨_, rfl⟩
  rw [← htt] at HT hL ht
  have i1 : IntKind.i64.wrap (t + p.l) = t + p.l := IntWalk.i64_in _ (by omega)
  have HD := Lib.hid h
  have HF := Lib.hid (And.intro hz (And.intro hb (And.intro hLn h1)))
  have HL := Lib.hid hL
  have HA := Lib.hid h2
  clear h hp hz hb htt hok hsz hs h1 h2 h3 h4 h5 h6 ht hL hLn
  unfold planV
  go_enter Tryz.func91, Tryz.ntmps91
  go_wp2_with fail
  rw [← hw1] at c0 c1 c2 HG ⊢
  rw [← hpb]
  clear hw1 hpb
  have k0 := kp_cell c0
  have k1 := kp_cell c1
  have k2 := kp_cell c2
  have hne := kp_ne w1
  have HD1 := Lib.hid (HD.out.gr0 HG.out)
  refine wp_region_kp (by kernel_rfl) (by kernel_rfl) ?_
  repeat (go_big_quiet_step ((rename_i x; first | exact kp_call x (linesK (HD1.out.kp x.h)) | exact kp_call x (HC.out _))))
  with_reducible refine wpQuiet_nil ?_
  rintro _ ⟨y, rfl⟩
  have HG2 := Lib.hid (HG.out.nextB y.h)
  have HD2 := Lib.hid (HD1.out.kp y.h)
  replace c0 := k0 y
  replace c1 := k1 y
  replace c2 := k2 y
  clear k0 k1 k2 hne
  generalize y.w = w2 at *
  clear y
  go_wp2_with fail
  refine (HTx.out _).mono ?_
  rintro e w3 ⟨rfl, hb3⟩
  have hl2 : pb < w2.heap.size := World.block_lt_of_cell? w2 _ c0
  have HG3 := Lib.hid (HG2.out.nextB hb3)
  have HD3 := Lib.hid (HD2.out.gr0 (Gr.ofBelow hb3))
  replace c0 := (hb3.cell (p := ⟨pb, 0, none⟩) hl2).trans c0
  replace c1 := (hb3.cell (p := ⟨pb, 1, none⟩) hl2).trans c1
  replace c2 := (hb3.cell (p := ⟨pb, 2, none⟩) hl2).trans c2
  clear hb3 hl2 HC HTx HD1 HD2 HG HG2 hl
  obtain ⟨Z, hZ⟩ : ∃ Z : ByteArray, Z = ⟨(catL [0, 0, 0, 0, 0, 0, 0, 0]).toArray⟩ := ⟨_, rfl⟩
  have HZ := Lib.hid (show Z = zeroT from hZ)
  rw [← hZ]
  clear hZ
  have k0 := kp_cell c0
  have k1 := kp_cell c1
  have k2 := kp_cell c2
  have hne := kp_ne w3
  go_wp2_with fail
  refine wp_region_kp (by kernel_rfl) (by kernel_rfl) ?_
  repeat (go_big_quiet_step ((rename_i x; exact kp_call x (HT.out _))))
  with_reducible refine wpQuiet_nil ?_
  rintro _ ⟨y, rfl⟩
  have HG4 := Lib.hid (HG3.out.nextB y.h)
  have HD4 := Lib.hid (HD3.out.kp y.h)
  replace c0 := k0 y
  clear k0 k1 k2 hne HG3 HD3 c1 c2
  generalize y.w = w4 at *
  clear y
  rw [HL.out]
  clear i1
  go_wp2_with fail
  go_loopw [25] (fun k wr => ∃ j : Nat, j ≤ L ∧ k = .int .i64 j ∧ DevIs wr a (fmtD p j D) ∧ Bd (fmtD p j D) (c + 10 * j) ∧ wr.cell? ⟨pb, 0, none⟩ = some (.int .i64 p.a) ∧ Gr a.all w wr) (fun k _ => L - (intOf k).toNat)
  case atStart => exact ⟨0, by omega, rfl, HD4.out, HF.out.2.1, c0, HG4.out.of0⟩
  case round =>
    obtain ⟨j, hj, rfl, hd', hb', c0', g'⟩ := hrel
    have HH := Lib.hid (And.intro hd' (And.intro hb' g'))
    clear hd' hb' g' c0
    by_cases hjL : j < L
    · have ij : (j : Int) < (L : Int) := by omega
      have i2 : IntKind.i64.wrap (p.a + (j : Int)) = p.a + (j : Int) := IntWalk.i64_in _ (by have := HA.out; have := HF.out.2.2.2; omega)
      have HP := Lib.hid (lput_any a (fmtD p j D) (p.a + (j : Int)) Z (c + 10 * j) wr HH.out.1 HH.out.2.1 (by omega) (by rw [HZ.out, zeroT_size]; unfold maxLen; omega))
      rw [HZ.out, fmt_put HF.out.1 HF.out.2.2.2 j (by have := HF.out.2.2.1; omega), ← HZ.out] at HP
      go_wp2_with fail
      refine HP.out.mono ?_
      rintro e w5 ⟨rfl, hd5, hb5, g5⟩
      have H5 := Lib.hid (And.intro hd5 (And.intro hb5 (And.intro ((World.cell?_of_block (w := wr) (g5.block pb (World.block_lt_of_cell? wr _ c0') HNP.out)).trans c0') (HH.out.2.2.trans g5))))
      clear hd5 hb5 g5
      go_wp2_with fail
      go_roundw
      case rel => exact ⟨j + 1, by omega, by go_num, by have := H5.out.1; rw [HZ.out] at this; exact this, by have := H5.out.2.1; rw [HZ.out] at this; exact this.mono (by omega), H5.out.2.2.1, H5.out.2.2.2⟩
      case measure => simp [intOf]; omega
    · obtain rfl : j = L := by omega
      have ij : ¬ ((j : Int) < (j : Int)) := by omega
      go_wp2_with fail
      go_ret
      exact ⟨rfl, HH.out⟩
end
end Go.Proofs.YtjbhallhmnahbaaGreat

/-
  Layer 5: note.
-/
namespace Go.Proofs.YtjbhallhmnahbaaGreat
open Go.RowKit

/-- What the table's word of a spare says. -/
def noteBad (p : PlanZ) (k v : Nat) (B : BkS) : Prop := guardN v ≠ v ∨ B.used < k ∨ low48 v = 0 ∨ (p.l < (low48 v : Int) ∧ low48 v ≠ 65535)
instance (p : PlanZ) (k v : Nat) (B : BkS) : Decidable (noteBad p k v B) := by unfold noteBad; infer_instance
def noteB (k v : Nat) (B : BkS) : BkS := ⟨B.used + 1, if low48 v = 65535 then B.wh else updZ B.wh ((low48 v : Int) - 1) (some k)⟩
def noteS (p : PlanZ) (k v : Nat) (B : BkS) : Int × BkS := if v = 0 then (0, B) else if noteBad p k v B then (5, B) else (0, noteB k v B)
theorem low48_lt (v : Nat) : low48 v < 281474976710656 := by unfold low48; omega
section
variable {w : World} {q : BkA} {a : DevA} {p : PlanZ} {B : BkS} {m : Nat}
theorem note_zero (k : Nat) : Calls Tryz.prog 144 #[.pointer (some ⟨q.b, 0, none⟩), .int .i64 (k : Int), .int .u64 0] w fun e w' => e = .returned (.int .i64 0) ∧ w' = w := by
  go_enter Tryz.func144, Tryz.ntmps144
  go_wp2_with fail
  go_ret
  exact ⟨rfl, rfl⟩
end
end Go.Proofs.YtjbhallhmnahbaaGreat

/-
  Layer 5: Open.
-/
namespace Go.Proofs.YtjbhallhmnahbaaGreat
open Go.RowKit

section
variable {w : World} {a : DevA} {D : DevS} {p : PlanZ} {c : Nat}
set_option maxRecDepth 100000 in
set_option maxHeartbeats 8000000 in
/-- A bank whose table is empty. -/
theorem open_zero (h : DevIs w a D) (ho : D.off = false) (hp : checkZ p (D.n : Int) = 0) (hz : ∀ k : Nat, (k : Int) < p.s → loadV D (8 * p.a.toNat + k) = 0) :
    Calls Tryz.prog 92 #[.pointer (some ⟨a.bd, 0, none⟩), planV p] w fun e w' => ∃ q : BkA, e = .returned (.tuple #[.pointer (some ⟨q.b, 0, none⟩), .int .i64 0]) ∧ BkIs w' q a p ⟨0, fun _ => none⟩ 0 ∧ (∀ b ∈ q.all, w.heap.size ≤ b) ∧ Gr [] w w' := by
  obtain ⟨hok, hsz⟩ := check_ok hp
  obtain ⟨h1, h2, h3, h4, h5, h6⟩ := (okZ_iff p).1 hok
  have hs : sizeZ p = tabZ p + p.l + p.s := by unfold sizeZ; rw [if_pos hok]
  have ht : 8 * tabZ p ≥ p.s := by unfold tabZ; omega
  obtain ⟨c0, c1, c2⟩ := plan_cells p w
  have HG := Lib.hid ((Gr.refl [] w).alloc (Obj.cells #[.int .i64 p.a, .int .i64 p.l, .int .i64 p.s] 158))
  obtain ⟨w1, hw1⟩ : ∃ w1, w1 = w.alloc (Obj.cells #[.int .i64 p.a, .int .i64 p.l, .int .i64 p.s] 158) := ⟨_, rfl⟩
  obtain ⟨pb, hpb⟩ : ∃ pb, pb = w.heap.size := ⟨_, rfl⟩
  rw [← hpb] at c0 c1 c2
  have HC := Lib.hid (fun W => show Calls Tryz.prog 138 #[.agg #[.int .i64 p.a, .int .i64 p.l, .int .i64 p.s], .int .i64 (D.n : Int)] W _ from check_any p (D.n : Int) W)
  rw [hp] at HC
  obtain ⟨aN, haN⟩ : ∃ aN : Nat, p.a = (aN : Int) := ⟨p.a.toNat, by omega⟩
  obtain ⟨S, hS⟩ : ∃ S : Nat, p.s = (S : Int) := ⟨p.s.toNat, by omega⟩
  have hnI : D.n ≤ 8192 := h.ok.hi
  have HLd := Lib.hid (fun (k : Nat) (hk : k < S) W (hW : DevIs W a D) => show Calls Tryz.prog 106 #[.pointer (some ⟨a.bd, 0, none⟩), .int .i64 (p.a * 8 + (k : Int))] W fun e w' => e = .returned (.tuple #[.int .u64 0, .int .i64 0]) ∧ Gr [] W w' by
    have r := load_ok a D (8 * aN + k) W hW ho (by omega)
    rw [show ((8 * aN + k : Nat) : Int) = p.a * 8 + (k : Int) by omega, show 8 * aN + k = 8 * p.a.toNat + k by omega, hz k (by omega)] at r
    exact r)
  have HMul := Lib.hid (show ∀ k : Nat, k < S → IntKind.i64.wrap (p.a * 8) = p.a * 8 ∧ IntKind.i64.wrap (p.a * 8 + (k : Int)) = p.a * 8 + (k : Int) from fun k hk => ⟨IntWalk.i64_in _ (by omega), IntWalk.i64_in _ (by omega)⟩)
  have HD := Lib.hid h
  have HS := Lib.hid hS
  have hS64 : S ≤ 64 := by omega
  have HO := Lib.hid (And.intro hok (show 0 ≤ p.s from h5))
  have HPB := Lib.hid (show w.heap.size ≤ pb ∧ pb < w1.heap.size by rw [hpb, hw1, World.size_alloc]; omega)
  clear h ho hp hz hok hsz h1 h2 h3 h4 h5 h6 hs ht hnI haN hS
  unfold planV
  go_enter Tryz.func92, Tryz.ntmps92
  go_wp2_with fail
  rw [← hw1] at c0 c1 c2 HG ⊢
  rw [← hpb]
  clear hw1 hpb
  have k0 := kp_cell c0
  have k1 := kp_cell c1
  have k2 := kp_cell c2
  have hne := kp_ne w1
  have HD1 := Lib.hid (HD.out.gr0 HG.out)
  refine wp_region_kp (by kernel_rfl) (by kernel_rfl) ?_
  repeat (go_big_quiet_step ((rename_i x; first | exact kp_call x (linesK (HD1.out.kp x.h)) | exact kp_call x (HC.out _))))
  with_reducible refine wpQuiet_nil ?_
  rintro _ ⟨y, rfl⟩
  have HG2 := Lib.hid (HG.out.nextB y.h)
  have HD2 := Lib.hid (HD1.out.kp y.h)
  have HP2 := Lib.hid (show pb < y.w.heap.size by have := y.h.size; have := HPB.out; omega)
  replace c0 := k0 y
  replace c1 := k1 y
  replace c2 := k2 y
  clear k0 k1 k2 hne HC HD1 HG
  generalize y.w = w2 at *
  clear y
  have hmm := @run_makeMap Tryz.prog
  go_upto_region 7 with fail
  have HQ : ∃ q : BkA, q.b = w2.heap.size + 1 ∧ BkIs ((w2.alloc (Obj.map #[] 0)).alloc (Obj.cells #[.pointer (some ⟨a.bd, 0, none⟩), .int .i64 p.a, .int .i64 p.l, .int .i64 p.s, .int .i64 0, .map (some w2.heap.size)] 216)) q a p ⟨0, fun _ => none⟩ 0 ∧ ∀ b ∈ q.all, w.heap.size ≤ b := by
    refine ⟨⟨w2.heap.size + 1, w2.heap.size⟩, rfl, ⟨?_, ?_, HO.out.1, HO.out.2, (fun x k e => by cases e), by show ¬ (w2.heap.size + 1 = w2.heap.size); omega, ?_⟩, ?_⟩
    · have := Holds.new (w2.alloc (Obj.map #[] 0)) #[.pointer (some ⟨a.bd, 0, none⟩), .int .i64 p.a, .int .i64 p.l, .int .i64 p.s, .int .i64 0, .map (some w2.heap.size)] 216
      rw [World.size_alloc] at this
      exact this
    · exact (MapZ.made w2).gr0 ((Gr.refl [] _).alloc _)
    · intro b hb q
      have := HD2.out.lt b q
      simp only [BkA.all, List.mem_cons, List.not_mem_nil, or_false] at hb
      omega
    · intro b hb
      have := HP2.out
      have := HPB.out
      simp only [BkA.all, List.mem_cons, List.not_mem_nil, or_false] at hb
      omega
  obtain ⟨q, hq, hbk, hqs⟩ := HQ
  have HG6 := Lib.hid ((HG2.out.alloc (Obj.map #[] 0)).alloc (Obj.cells #[.pointer (some ⟨a.bd, 0, none⟩), .int .i64 p.a, .int .i64 p.l, .int .i64 p.s, .int .i64 0, .map (some w2.heap.size)] 216))
  have hg6 : Gr [] w2 ((w2.alloc (Obj.map #[] 0)).alloc (Obj.cells #[.pointer (some ⟨a.bd, 0, none⟩), .int .i64 p.a, .int .i64 p.l, .int .i64 p.s, .int .i64 0, .map (some w2.heap.size)] 216)) := ((Gr.refl [] w2).alloc _).alloc _
  replace c0 := (hg6.cell0 (o := 0) HP2.out).trans c0
  replace c2 := (hg6.cell0 (o := 2) HP2.out).trans c2
  have HD6 := Lib.hid (HD2.out.gr0 hg6)
  have HP6 := Lib.hid (Nat.lt_of_lt_of_le HP2.out hg6.size)
  have HBK := Lib.hid (And.intro hbk hqs)
  rw [← hq]
  clear hq hbk hqs hg6 HG2 HD2 HP2 hmm c1
  generalize ((w2.alloc (Obj.map #[] 0)).alloc (Obj.cells #[.pointer (some ⟨a.bd, 0, none⟩), .int .i64 p.a, .int .i64 p.l, .int .i64 p.s, .int .i64 0, .map (some w2.heap.size)] 216)) = w6 at *
  go_wp2_with fail
  rw [HS.out]
  go_loopw [28] (fun k wr => ∃ j : Nat, j ≤ S ∧ k = .int .i64 j ∧ Gr [] w6 wr) (fun k _ => S - (intOf k).toNat)
  case atStart => exact ⟨0, by omega, rfl, Gr.refl _ _⟩
  case round =>
    obtain ⟨j, hj, rfl, g'⟩ := hrel
    have HH := Lib.hid g'
    have c0 := (g'.cell0 (o := 0) HP6.out).trans c0
    clear g'
    by_cases hjL : j < S
    · have ij : (j : Int) < (S : Int) := by omega
      obtain ⟨i1, i2⟩ := HMul.out j hjL
      have HLj := Lib.hid (HLd.out j hjL wr (HD6.out.gr0 HH.out))
      go_wp2_with fail
      refine HLj.out.mono ?_
      rintro e w7 ⟨rfl, g7⟩
      have HH7 := Lib.hid (HH.out.trans g7)
      clear g7
      go_wp2_with fail
      refine (note_zero j).mono ?_
      rintro e w8 ⟨rfl, rfl⟩
      go_wp2_with fail
      go_roundw
      case rel => exact ⟨j + 1, by omega, by go_num, HH7.out⟩
      case measure => simp [intOf]; omega
    · obtain rfl : j = S := by omega
      have ij : ¬ ((j : Int) < (j : Int)) := by omega
      go_wp2_with fail
      go_ret2
      exact ⟨q, rfl, HBK.out.1.gr0 HH.out, HBK.out.2, HG6.out.trans HH.out⟩
end
end Go.Proofs.YtjbhallhmnahbaaGreat
