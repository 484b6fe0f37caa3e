/-
  MgH: LnD, LnG, LnH, LnI, LnJ.
-/
import Derived.Test.YtdgcninmpcmdcaaGreatMgL
import Derived.Deep.QuietTactic
import Derived.BigQuiet
import Derived.Deep.RegionHeld3

/-
  Layer 4: what a Put leaves on a device that is on, with no fuse, with nothing pending; wakes.
-/
namespace Go.Proofs.YtdgcninmpcmdcaaGreat
open Go.RowKit

structure Calm (D : DevS) : Prop where
  off : D.off = false
  fuse : D.fuse = 0
  buf : ∀ z, D.buf z = none
/-- i words from B on are stored. -/
structure Sto (D D' : DevS) (B i : Nat) (f : Nat → Nat) : Prop where
  n : D'.n = D.n
  off : D'.off = false
  fuse : D'.fuse = 0
  bad : D'.bad = D.bad
  med : D'.med = D.med
  cnt : D'.cnt = D.cnt + i
  buf : ∀ z : Int, D'.buf z = if (B : Int) ≤ z ∧ z < (B : Int) + i then some (f (z - B).toNat, false) else none
/-- m words from B on, in line l, last. -/
structure PutS (D D' : DevS) (l B m : Nat) (f : Nat → Nat) : Prop where
  n : D'.n = D.n
  calm : Calm D'
  bad : D'.bad = D.bad
  cnt : D'.cnt = D.cnt + m + 2
  med : ∀ x, D'.med x = if B ≤ x ∧ x < B + m ∧ D.bad l = false then f (x - B) else D.med x
theorem Sto.start {D : DevS} (h : Calm D) (B : Nat) (f : Nat → Nat) : Sto D D B 0 f :=
  ⟨rfl, h.off, h.fuse, rfl, rfl, rfl, fun z => by rw [if_neg (by omega)]; exact h.buf z⟩
theorem stos_live (D : DevS) (l k m : Nat) (f : Nat → Nat) (hl : l < D.n) (hk : k + m ≤ 8) : ∀ (r i : Nat) (D' : DevS), i + r = m → Sto D D' (8 * l + k) i f → ∃ E, stos l k f r i D' = (0, E) ∧ PutS D E l (8 * l + k) m f
  | 0, i, D', hi, h => by
    obtain rfl : i = m := by omega
    have h1 := live_e (D := D') (t := isLine D' (l : Int)) h.off h.fuse (by unfold isLine; rw [decide_eq_true_eq, h.n]; omega)
    obtain ⟨D2, hD2⟩ : ∃ D2, D2 = flushF (l : Int) D' := ⟨_, rfl⟩
    have o2 : D2.off = false := by rw [hD2]; exact h.off
    have u2 : D2.fuse = 0 := by rw [hD2]; exact h.fuse
    have h2 := live_e (D := D2) (t := true) o2 u2 rfl
    have b2 : ∀ z : Int, D2.buf z = if ((8 * l + k : Nat) : Int) ≤ z ∧ z < ((8 * l + k : Nat) : Int) + i then some (f (z - ((8 * l + k : Nat) : Int)).toNat, true) else none := fun z => by
      rw [hD2]
      show flF D'.buf ((l : Int).toNat) 8 z = _
      rw [Int.toNat_natCast]
      unfold flF
      rw [h.buf z]
      by_cases c : ((8 * l + k : Nat) : Int) ≤ z ∧ z < ((8 * l + k : Nat) : Int) + i
      · rw [if_pos c, if_pos c, if_pos (by omega)]; rfl
      · rw [if_neg c, if_neg c]; split <;> rfl
    have s2 : ∀ x : Nat, fluS D2 x = decide (8 * l + k ≤ x ∧ x < 8 * l + k + i) := fun x => by
      unfold fluS
      rw [b2]
      by_cases c : 8 * l + k ≤ x ∧ x < 8 * l + k + i
      · rw [if_pos (by omega), decide_eq_true c]; rfl
      · rw [if_neg (by omega), decide_eq_false c]; rfl
    refine ⟨fenceF D2, ?_, ?_⟩
    · unfold stos finS
      rw [h1.1, if_pos rfl, h1.2, ← hD2, h2.1, h2.2]
    · refine ⟨by rw [hD2]; exact h.n, ⟨o2, u2, fun z => ?_⟩, by rw [hD2]; exact h.bad, by rw [hD2]; show D'.cnt + 1 + 1 = _; rw [h.cnt], fun x => ?_⟩
      · show perBuf D2 (fluS D2) z = none
        unfold perBuf
        rw [s2, b2]
        by_cases c : ((8 * l + k : Nat) : Int) ≤ z ∧ z < ((8 * l + k : Nat) : Int) + i
        · rw [if_pos ⟨by omega, by rw [decide_eq_true_eq]; omega⟩]
        · rw [if_neg c]; split <;> rfl
      · show perMed D2 (fluS D2) x = _
        unfold perMed
        have hb : D2.bad = D.bad := by rw [hD2]; exact h.bad
        have hm : D2.med = D.med := by rw [hD2]; exact h.med
        rw [s2, b2, hb, hm]
        by_cases c : 8 * l + k ≤ x ∧ x < 8 * l + k + i
        · rw [decide_eq_true c, if_pos (show ((8 * l + k : Nat) : Int) ≤ (x : Int) ∧ (x : Int) < ((8 * l + k : Nat) : Int) + i by omega), show x / 8 = l by omega]
          cases hbl : D.bad l with
          | true => rw [if_neg (by simp), if_neg (by simp)]
          | false =>
            rw [if_pos ⟨rfl, rfl⟩, if_pos ⟨c.1, c.2, rfl⟩]
            show f ((x : Int) - ((8 * l + k : Nat) : Int)).toNat = _
            congr 1
            omega
        · rw [decide_eq_false c, if_neg (by simp), if_neg (fun e => c ⟨e.1, e.2.1⟩)]
  | r + 1, i, D', hi, h => by
    have h1 := live_e (D := D') (t := isWord D' ((8 * l + k + i : Nat) : Int)) h.off h.fuse (by unfold isWord; rw [decide_eq_true_eq, h.n]; omega)
    have hs : Sto D (storeF ((8 * l + k + i : Nat) : Int) (f i) D') (8 * l + k) (i + 1) f := by
      refine ⟨h.n, h.off, h.fuse, h.bad, h.med, by show D'.cnt + 1 = _; rw [h.cnt]; omega, fun z => ?_⟩
      show updZ D'.buf ((8 * l + k + i : Nat) : Int) (some (f i, false)) z = _
      unfold updZ
      by_cases e : z = ((8 * l + k + i : Nat) : Int)
      · subst e
        rw [if_pos rfl, if_pos (by omega)]
        congr 3
        omega
      · rw [if_neg e, h.buf z]
        by_cases c : ((8 * l + k : Nat) : Int) ≤ z ∧ z < ((8 * l + k : Nat) : Int) + i
        · rw [if_pos c, if_pos (by omega)]
        · rw [if_neg c, if_neg (by omega)]
    obtain ⟨E, e1, e2⟩ := stos_live D l k m f hl hk r (i + 1) _ (by omega) hs
    refine ⟨E, ?_, e2⟩
    unfold stos
    rw [h1.1, if_pos rfl, h1.2]
    exact e1
theorem put_calm {D : DevS} {l : Nat} {s : ByteArray} (h : Calm D) (hl : l < D.n) (hs : s.size = 64) : ∃ E, putE D (l : Int) s = (0, E) ∧ PutS D E l (8 * l) 8 (wdL s.data.toList) := by
  obtain ⟨E, e1, e2⟩ := stos_live D l 0 8 (wdL s.data.toList) hl (by omega) 8 0 D (by omega) (.start h _ _)
  refine ⟨E, ?_, e2⟩
  unfold putE
  rw [if_neg (by simp [hs]), if_pos (by unfold isLine; rw [decide_eq_true_eq]; omega), Int.toNat_natCast]
  exact e1
theorem putword_calm {D : DevS} {l k v : Nat} (h : Calm D) (hl : l < D.n) (hk : k < 8) : ∃ E, pwE D (l : Int) (k : Int) v = (0, E) ∧ PutS D E l (8 * l + k) 1 (fun _ => v) := by
  obtain ⟨E, e1, e2⟩ := stos_live D l k 1 (fun _ => v) hl (by omega) 1 0 D (by omega) (.start h _ _)
  refine ⟨E, ?_, e2⟩
  unfold pwE
  rw [if_neg (by omega), if_pos (by unfold isLine; rw [decide_eq_true_eq]; omega), Int.toNat_natCast, Int.toNat_natCast]
  exact e1
theorem calm_load {D : DevS} (h : Calm D) (i : Nat) : loadV D i = D.med i := by unfold loadV; rw [h.buf]
theorem getT_of {D : DevS} {l : Nat} {s : ByteArray} (h : Calm D) (hs : s.size = 64) (hm : ∀ k, k < 8 → D.med (8 * l + k) = wdL s.data.toList k) : (⟨(getT D l).toArray⟩ : ByteArray) = s := by
  have e : getT D l = s.data.toList := by
    unfold getT
    rw [calm_load h, calm_load h, calm_load h, calm_load h, calm_load h, calm_load h, calm_load h, calm_load h]
    have := hm 0 (by omega)
    rw [Nat.add_zero] at this
    rw [this, hm 1 (by omega), hm 2 (by omega), hm 3 (by omega), hm 4 (by omega), hm 5 (by omega), hm 6 (by omega), hm 7 (by omega)]
    exact cat_wdL 8 s.data.toList hs
  rw [e]
theorem took_of {D : DevS} {l : Nat} {s : ByteArray} (hl : l < D.n) (hs : s.size = 64) (hm : ∀ k, k < 8 → D.med (8 * l + k) = wdL s.data.toList k) : tookB D (l : Int) s = true := by
  unfold tookB
  rw [decide_eq_true hs, show isLine D (l : Int) = true by unfold isLine; rw [decide_eq_true_eq]; omega, Int.toNat_natCast, Bool.true_and, Bool.true_and, List.all_eq_true]
  intro k hk
  rw [List.mem_range] at hk
  simpa using hm k hk
theorem took_not {D : DevS} {l k : Nat} {s : ByteArray} (hk : k < 8) (hm : D.med (8 * l + k) ≠ wdL s.data.toList k) : tookB D (l : Int) s = false := by
  unfold tookB
  rw [Int.toNat_natCast, show ((List.range 8).all fun k => D.med (8 * l + k) == wdL s.data.toList k) = false by
    rw [List.all_eq_false]
    exact ⟨k, List.mem_range.2 hk, by simpa using hm⟩]
  simp

/-! ### wakes -/
def abcS : ByteArray := fullS ⟨#[97, 98, 99]⟩
theorem abc_size : abcS.size = 64 := fullS_size _
theorem abc_word : wdL abcS.data.toList 0 ≠ 0 := by decide +kernel
end Go.Proofs.YtdgcninmpcmdcaaGreat

/-
  Layer 4: Mixed, the reference's Mixed.
-/
namespace Go.Proofs.YtdgcninmpcmdcaaGreat
open Go.RowKit
set_option linter.unusedVariables false

def mixB (was is got : ByteArray) : Bool := decide (was.size = 64 ∧ is.size = 64 ∧ got.size = 64) && (List.range 8).all fun k => wdL got.data.toList k == wdL was.data.toList k || wdL got.data.toList k == wdL is.data.toList k
theorem words_gen (s : ByteArray) (w : World) (hs : s.size ≤ maxLen) : Calls Tryz.prog 70 #[.string s] w fun e w' => ∃ (n0 n1 n2 n3 n4 n5 n6 n7 : Nat) (ev : Int), e = .returned (.tuple #[.agg #[.int .u64 (n0 : Int), .int .u64 (n1 : Int), .int .u64 (n2 : Int), .int .u64 (n3 : Int), .int .u64 (n4 : Int), .int .u64 (n5 : Int), .int .u64 (n6 : Int), .int .u64 (n7 : Int)], .int .i64 ev]) ∧
    ((ev = 0 ∧ s.size = 64 ∧ ∀ k, k < 8 → [n0, n1, n2, n3, n4, n5, n6, n7][k]? = some (wdL s.data.toList k)) ∨ (ev = 2 ∧ s.size ≠ 64)) ∧ Gr [] w w' := by
  by_cases h : s.size = 64
  · refine (words_yes s w h).mono ?_
    rintro e w' ⟨rfl, g⟩
    refine ⟨_, _, _, _, _, _, _, _, _, rfl, .inl ⟨rfl, h, fun k hk => ?_⟩, .ofBelow g⟩
    rcases (show k = 0 ∨ k = 1 ∨ k = 2 ∨ k = 3 ∨ k = 4 ∨ k = 5 ∨ k = 6 ∨ k = 7 by omega) with rfl | rfl | rfl | rfl | rfl | rfl | rfl | rfl <;> rfl
  · refine (words_no s w hs h).mono ?_
    rintro e w' ⟨rfl, g⟩
    exact ⟨0, 0, 0, 0, 0, 0, 0, 0, 2, rfl, .inr ⟨rfl, h⟩, .ofBelow g⟩
theorem arr8_at (n0 n1 n2 n3 n4 n5 n6 n7 k n : Nat) (h : [n0, n1, n2, n3, n4, n5, n6, n7][k]? = some n) : (#[Value.int .u64 (n0 : Int), Value.int .u64 (n1 : Int), Value.int .u64 (n2 : Int), Value.int .u64 (n3 : Int), Value.int .u64 (n4 : Int), Value.int .u64 (n5 : Int), Value.int .u64 (n6 : Int), Value.int .u64 (n7 : Int)] : Array Value)[k]? = some (.int .u64 (n : Int)) := by
  have hk : k < 8 := by have := (List.getElem?_eq_some_iff.1 h).1; simpa using this
  rcases (show k = 0 ∨ k = 1 ∨ k = 2 ∨ k = 3 ∨ k = 4 ∨ k = 5 ∨ k = 6 ∨ k = 7 by omega) with rfl | rfl | rfl | rfl | rfl | rfl | rfl | rfl <;> (simp at h; subst h; rfl)

set_option maxRecDepth 100000 in
set_option maxHeartbeats 4000000 in
theorem mixed_any (s t u : ByteArray) (w : World) (hs : s.size ≤ maxLen) (ht : t.size ≤ maxLen) (hu : u.size ≤ maxLen) :
    Calls Tryz.prog 24 #[.string s, .string t, .string u] w fun e w' => e = .returned (.bool (mixB s t u)) ∧ Gr [] w w' := by
  have HS := Lib.hid (fun W => words_gen s W hs)
  have HT := Lib.hid (fun W => words_gen t W ht)
  have HU := Lib.hid (fun W => words_gen u W hu)
  clear hs ht hu
  go_enter Tryz.func24, Tryz.ntmps24
  go_wp2_with fail
  refine (HS.out _).mono ?_
  rintro e w1 ⟨a0, a1, a2, a3, a4, a5, a6, a7, ea, rfl, ha, g1⟩
  have XA := Lib.hid (Holds.new w1 #[Value.int .u64 (a0 : Int), Value.int .u64 (a1 : Int), Value.int .u64 (a2 : Int), Value.int .u64 (a3 : Int), Value.int .u64 (a4 : Int), Value.int .u64 (a5 : Int), Value.int .u64 (a6 : Int), Value.int .u64 (a7 : Int)] 124)
  have GA := Lib.hid (g1.alloc (Obj.cells #[Value.int .u64 (a0 : Int), Value.int .u64 (a1 : Int), Value.int .u64 (a2 : Int), Value.int .u64 (a3 : Int), Value.int .u64 (a4 : Int), Value.int .u64 (a5 : Int), Value.int .u64 (a6 : Int), Value.int .u64 (a7 : Int)] 124))
  have HA := Lib.hid ha
  clear g1 ha
  go_wp2_with fail
  generalize w1.alloc (Obj.cells #[Value.int .u64 (a0 : Int), Value.int .u64 (a1 : Int), Value.int .u64 (a2 : Int), Value.int .u64 (a3 : Int), Value.int .u64 (a4 : Int), Value.int .u64 (a5 : Int), Value.int .u64 (a6 : Int), Value.int .u64 (a7 : Int)] 124) = wa at *
  generalize w1.heap.size = ba at *
  refine (HT.out _).mono ?_
  rintro e w2 ⟨b0, b1, b2, b3, b4, b5, b6, b7, eb, rfl, hb, g2⟩
  have XB := Lib.hid (Holds.new w2 #[Value.int .u64 (b0 : Int), Value.int .u64 (b1 : Int), Value.int .u64 (b2 : Int), Value.int .u64 (b3 : Int), Value.int .u64 (b4 : Int), Value.int .u64 (b5 : Int), Value.int .u64 (b6 : Int), Value.int .u64 (b7 : Int)] 124)
  have GB := Lib.hid (g2.alloc (Obj.cells #[Value.int .u64 (b0 : Int), Value.int .u64 (b1 : Int), Value.int .u64 (b2 : Int), Value.int .u64 (b3 : Int), Value.int .u64 (b4 : Int), Value.int .u64 (b5 : Int), Value.int .u64 (b6 : Int), Value.int .u64 (b7 : Int)] 124))
  have HB := Lib.hid hb
  clear g2 hb
  go_wp2_with fail
  generalize w2.alloc (Obj.cells #[Value.int .u64 (b0 : Int), Value.int .u64 (b1 : Int), Value.int .u64 (b2 : Int), Value.int .u64 (b3 : Int), Value.int .u64 (b4 : Int), Value.int .u64 (b5 : Int), Value.int .u64 (b6 : Int), Value.int .u64 (b7 : Int)] 124) = wb at *
  generalize w2.heap.size = bb at *
  refine (HU.out _).mono ?_
  rintro e w3 ⟨c0, c1, c2, c3, c4, c5, c6, c7, ec, rfl, hc, g3⟩
  have XC := Holds.new w3 #[Value.int .u64 (c0 : Int), Value.int .u64 (c1 : Int), Value.int .u64 (c2 : Int), Value.int .u64 (c3 : Int), Value.int .u64 (c4 : Int), Value.int .u64 (c5 : Int), Value.int .u64 (c6 : Int), Value.int .u64 (c7 : Int)] 124
  have GC := Lib.hid (g3.alloc (Obj.cells #[Value.int .u64 (c0 : Int), Value.int .u64 (c1 : Int), Value.int .u64 (c2 : Int), Value.int .u64 (c3 : Int), Value.int .u64 (c4 : Int), Value.int .u64 (c5 : Int), Value.int .u64 (c6 : Int), Value.int .u64 (c7 : Int)] 124))
  obtain ⟨k0, k1, k2, k3, k4, k5, k6, k7⟩ := XC.eight
  have HCC := Lib.hid hc
  clear g3 hc XC
  have HG := Lib.hid ((GA.out.trans GB.out).trans GC.out)
  rcases HA.out with ⟨rfl, sa, la⟩ | ⟨rfl, sa⟩
  · have HLA := Lib.hid (And.intro sa la)
    clear sa la HA
    rcases HB.out with ⟨rfl, sb, lb⟩ | ⟨rfl, sb⟩
    · have HLB := Lib.hid (And.intro sb lb)
      clear sb lb HB
      rcases HCC.out with ⟨rfl, sc, lc⟩ | ⟨rfl, sc⟩
      · have HLC := Lib.hid (And.intro sc lc)
        have HE := Lib.hid (show mixB s t u = (List.range 8).all fun k => wdL u.data.toList k == wdL s.data.toList k || wdL u.data.toList k == wdL t.data.toList k by unfold mixB; rw [decide_eq_true ⟨HLA.out.1, HLB.out.1, sc⟩, Bool.true_and])
        clear sc lc HCC
        go_wp2_with fail
        clear k0 k1 k2 k3 k4 k5 k6 k7
        have XA3 := Lib.hid ((XA.out.gr0 GB.out).gr0 GC.out)
        have XB3 := Lib.hid (XB.out.gr0 GC.out)
        generalize w3.alloc (Obj.cells #[Value.int .u64 (c0 : Int), Value.int .u64 (c1 : Int), Value.int .u64 (c2 : Int), Value.int .u64 (c3 : Int), Value.int .u64 (c4 : Int), Value.int .u64 (c5 : Int), Value.int .u64 (c6 : Int), Value.int .u64 (c7 : Int)] 124) = wc at *
        go_loopw [41] (fun z wr => ∃ k : Nat, k ≤ 8 ∧ z = .int .i64 (k : Int) ∧ (∀ j, j < k → (wdL u.data.toList j == wdL s.data.toList j || wdL u.data.toList j == wdL t.data.toList j) = true) ∧ wc = wr) (fun z _ => 8 - (intOf z).toNat)
        case atStart => exact ⟨0, by omega, rfl, fun j hj => by omega, rfl⟩
        case round =>
          obtain ⟨k, hk, rfl, hall, rfl⟩ := hrel
          have HALL := Lib.hid hall
          clear hall
          by_cases hlt : k < 8
          · have hd : decide ((k : Int) < 8) = true := by simp; omega
            obtain ⟨G, hG⟩ : ∃ G, wdL u.data.toList k = G := ⟨_, rfl⟩
            obtain ⟨A, hA⟩ : ∃ A, wdL s.data.toList k = A := ⟨_, rfl⟩
            obtain ⟨B, hB⟩ : ∃ B, wdL t.data.toList k = B := ⟨_, rfl⟩
            have hix := index8 c0 c1 c2 c3 c4 c5 c6 c7 k G (by rw [← hG]; exact HLC.out.2 k hlt)
            have e1 : wc.cell? ⟨ba, k, none⟩ = some (.int .u64 (A : Int)) := by rw [XA3.out.cell]; exact arr8_at a0 a1 a2 a3 a4 a5 a6 a7 k A (by rw [← hA]; exact HLA.out.2 k hlt)
            have e2 : wc.cell? ⟨bb, k, none⟩ = some (.int .u64 (B : Int)) := by rw [XB3.out.cell]; exact arr8_at b0 b1 b2 b3 b4 b5 b6 b7 k B (by rw [← hB]; exact HLB.out.2 k hlt)
            have hk0 : (0 : Int) ≤ (k : Int) := by omega
            have hk8 : (k : Int) < 8 := by omega
            by_cases hGA : G = A
            · have HN := Lib.hid (show ∀ j, j < k + 1 → (wdL u.data.toList j == wdL s.data.toList j || wdL u.data.toList j == wdL t.data.toList j) = true from fun j hj => by
                by_cases c : j = k
                · subst c; rw [hG, hA, hGA]; simp
                · exact HALL.out j (by omega))
              clear hG hA hB
              subst hGA
              go_wp2_with fail
              go_roundw
              case rel => exact ⟨k + 1, by omega, by go_num, HN.out, by first | rfl | trivial⟩
              case measure => simp [intOf]; omega
            · have d1 : ((G : Int) != (A : Int)) = true := by simp; omega
              have d2 : ((G : Int) == (A : Int)) = false := by simp; omega
              by_cases hGB : G = B
              · have HN := Lib.hid (show ∀ j, j < k + 1 → (wdL u.data.toList j == wdL s.data.toList j || wdL u.data.toList j == wdL t.data.toList j) = true from fun j hj => by
                  by_cases c : j = k
                  · subst c; rw [hG, hB, hGB]; simp
                  · exact HALL.out j (by omega))
                clear hG hA hB hGA
                subst hGB
                go_wp2_with fail
                go_roundw
                case rel => exact ⟨k + 1, by omega, by go_num, HN.out, by first | rfl | trivial⟩
                case measure => simp [intOf]; omega
              · have d3 : ((G : Int) != (B : Int)) = true := by simp; omega
                have d4 : ((G : Int) == (B : Int)) = false := by simp; omega
                have HN := Lib.hid (show ((List.range 8).all fun k => wdL u.data.toList k == wdL s.data.toList k || wdL u.data.toList k == wdL t.data.toList k) = false by
                  rw [List.all_eq_false]
                  exact ⟨k, List.mem_range.2 hlt, by rw [hG, hA, hB]; simp [hGA, hGB]⟩)
                clear hG hA hB hGA hGB
                go_wp2_with fail
                go_ret
                rw [HE.out, HN.out]
                exact ⟨rfl, HG.out⟩
          · obtain rfl : k = 8 := by omega
            have HN := Lib.hid (show ((List.range 8).all fun k => wdL u.data.toList k == wdL s.data.toList k || wdL u.data.toList k == wdL t.data.toList k) = true by
              rw [List.all_eq_true]
              intro j hj
              rw [List.mem_range] at hj
              exact HALL.out j hj)
            rw [show ((8 : Nat) : Int) = 8 from rfl]
            go_wp2_with fail
            go_ret
            rw [HE.out, HN.out]
            exact ⟨rfl, HG.out⟩
      · have HE := Lib.hid (show mixB s t u = false by unfold mixB; rw [decide_eq_false (fun q => sc q.2.2)]; rfl)
        clear sc HCC
        go_wp2_with fail
        go_ret
        rw [HE.out]
        exact ⟨rfl, HG.out⟩
    · have HE := Lib.hid (show mixB s t u = false by unfold mixB; rw [decide_eq_false (fun q => sb q.2.1)]; rfl)
      clear sb HB
      go_wp2_with fail
      go_ret
      rw [HE.out]
      exact ⟨rfl, HG.out⟩
  · have HE := Lib.hid (show mixB s t u = false by unfold mixB; rw [decide_eq_false (fun q => sa q.1)]; rfl)
    clear sa HA
    go_wp2_with fail
    go_ret
    rw [HE.out]
    exact ⟨rfl, HG.out⟩

/-! ### The reference's -/
theorem ext8 (s : ByteArray) (q : Nat) : (s.extract q (q + 8)).data.toList = (s.data.toList.drop q).take 8 := by
  simp only [ByteArray.data_extract, Array.toList_extract, List.extract_eq_take_drop]
  rw [show q + 8 - q = 8 by omega]
theorem getL_inj8 {l m : List UInt8} (hl : l.length = 8) (hm : m.length = 8) (h : getL l = getL m) : l = m := by
  rw [← putL_getL l, ← putL_getL m, h, hl, hm]
theorem eq8 {s t : ByteArray} (hs : s.size = 64) (ht : t.size = 64) {j : Nat} (hj : j < 8) : s.extract (8 * j) (8 * j + 8) = t.extract (8 * j) (8 * j + 8) ↔ wdL s.data.toList j = wdL t.data.toList j := by
  constructor
  · intro h
    unfold wdL
    rw [← ext8, ← ext8, h]
  · intro h
    apply ByteArray.ext
    apply Array.ext'
    have e1 := ext8 s (8 * j)
    have e2 := ext8 t (8 * j)
    show (s.extract (8 * j) (8 * j + 8)).data.toList = (t.extract (8 * j) (8 * j + 8)).data.toList
    rw [e1, e2]
    have ls : s.data.toList.length = 64 := hs
    have lt : t.data.toList.length = 64 := ht
    exact getL_inj8 (by simp; omega) (by simp; omega) h

theorem bs_beq_false {x y : ByteArray} (h : x ≠ y) : (x.toList == y.toList) = false := by
  rw [beq_eq_false_iff_ne]
  intro e
  apply h
  apply ByteArray.ext
  apply Array.ext'
  rw [ByteArray.toList_eq, ByteArray.toList_eq] at e
  exact e
theorem bs_beq_true {x y : ByteArray} (h : x = y) : (x.toList == y.toList) = true := by rw [h]; exact beq_self_eq_true _

end Go.Proofs.YtdgcninmpcmdcaaGreat

/-
  LineMixes.
-/
namespace Go.Proofs.YtdgcninmpcmdcaaGreat
open Go.RowKit
set_option linter.unusedVariables false

/-- G's first words are A's or B's. -/
def MixTo (A B G : ByteArray) (k : Nat) : Prop := G.size = 8 * k ∧ ∀ j, j < k → wdL G.data.toList j = wdL A.data.toList j ∨ wdL G.data.toList j = wdL B.data.toList j
theorem MixTo.next {A B G X : ByteArray} {k : Nat} (h : MixTo A B G k) (hX : X = A ∨ X = B) (hs : X.size = 64) (hk : k < 8) : MixTo A B (G ++ X.extract (8 * k) (8 * k + 8)) (k + 1) := by
  have hg : G.data.toList.length = 8 * k := h.1
  have hx : (X.extract (8 * k) (8 * k + 8)).data.toList = (X.data.toList.drop (8 * k)).take 8 := ext8 X (8 * k)
  have hxl : X.data.toList.length = 64 := hs
  have e : (G ++ X.extract (8 * k) (8 * k + 8)).data.toList = G.data.toList ++ (X.data.toList.drop (8 * k)).take 8 := by
    rw [ByteArray.data_append, Array.toList_append, hx]
  refine ⟨?_, fun j hj => ?_⟩
  · show (G ++ X.extract (8 * k) (8 * k + 8)).data.toList.length = _
    rw [e, List.length_append, hg, List.length_take, List.length_drop, hxl]
    omega
  · by_cases c : j = k
    · subst c
      have q : wdL (G ++ X.extract (8 * j) (8 * j + 8)).data.toList j = wdL X.data.toList j := by
        unfold wdL
        rw [e, show 8 * j = G.data.toList.length by omega, List.drop_left, List.take_take, Nat.min_self]
      rcases hX with rfl | rfl
      · exact .inl q
      · exact .inr q
    · have q : wdL (G ++ X.extract (8 * k) (8 * k + 8)).data.toList j = wdL G.data.toList j := by
        unfold wdL
        rw [e, List.drop_append_of_le_length (by omega), List.take_append_of_le_length (by rw [List.length_drop, hg]; omega)]
      rw [q]
      exact h.2 j (by omega)
theorem MixTo.all {A B G : ByteArray} (hA : A.size = 64) (hB : B.size = 64) (h : MixTo A B G 8) : mixB A B G = true := by
  unfold mixB
  rw [decide_eq_true ⟨hA, hB, h.1⟩, Bool.true_and, List.all_eq_true]
  intro j hj
  rw [List.mem_range] at hj
  rcases h.2 j hj with q | q <;> simp [q]
theorem str7_at (s0 s1 s2 s3 s4 s5 s6 : ByteArray) (P : ByteArray → Prop) (h0 : P s0) (h1 : P s1) (h2 : P s2) (h3 : P s3) (h4 : P s4) (h5 : P s5) (h6 : P s6) (i : Nat) (hi : i < 7) :
    ∃ X, P X ∧ (#[Value.string s0, .string s1, .string s2, .string s3, .string s4, .string s5, .string s6] : Array Value)[i]? = some (.string X) := by
  rcases (show i = 0 ∨ i = 1 ∨ i = 2 ∨ i = 3 ∨ i = 4 ∨ i = 5 ∨ i = 6 by omega) with rfl | rfl | rfl | rfl | rfl | rfl | rfl
  · exact ⟨_, h0, rfl⟩
  · exact ⟨_, h1, rfl⟩
  · exact ⟨_, h2, rfl⟩
  · exact ⟨_, h3, rfl⟩
  · exact ⟨_, h4, rfl⟩
  · exact ⟨_, h5, rfl⟩
  · exact ⟨_, h6, rfl⟩

end Go.Proofs.YtdgcninmpcmdcaaGreat

/-
  LineTorn: what is left where the power fails.
-/
namespace Go.Proofs.YtdgcninmpcmdcaaGreat
open Go.RowKit

/-- One line; each word lasts as it was or as it is to be; what is pending is to be. -/
structure Tor (D : DevS) (P Q : Nat → Nat) : Prop where
  n : D.n = 1
  bad : D.bad 0 = false
  med : ∀ k, k < 8 → D.med k = P k ∨ D.med k = Q k
  buf : ∀ k : Nat, k < 8 → D.buf (k : Int) = none ∨ ∃ f, D.buf (k : Int) = some (Q k, f)
theorem Tor.lit {D : DevS} {P Q : Nat → Nat} (h : Tor D P Q) : Tor (lit D) P Q := ⟨h.n, h.bad, h.med, h.buf⟩
theorem Tor.cut {D : DevS} {P Q : Nat → Nat} (h : Tor D P Q) : Tor { D with fuse := 0, off := true } P Q := ⟨h.n, h.bad, h.med, h.buf⟩
theorem Tor.store {D : DevS} {P Q : Nat → Nat} (h : Tor D P Q) (i : Nat) (v : Nat) (hv : v = Q i) : Tor (storeF (i : Int) v D) P Q := by
  refine ⟨h.n, h.bad, h.med, fun k hk => ?_⟩
  show updZ D.buf (i : Int) (some (v, false)) (k : Int) = none ∨ _
  unfold updZ
  by_cases e : (k : Int) = (i : Int)
  · obtain rfl : k = i := by omega
    rw [if_pos e]
    exact .inr ⟨false, by show updZ D.buf (k : Int) (some (v, false)) (k : Int) = _; unfold updZ; rw [if_pos rfl, hv]⟩
  · rw [if_neg e]
    rcases h.buf k hk with q | ⟨f, q⟩
    · exact .inl q
    · exact .inr ⟨f, by show updZ D.buf (i : Int) (some (v, false)) (k : Int) = _; unfold updZ; rw [if_neg e]; exact q⟩
theorem Tor.flush {D : DevS} {P Q : Nat → Nat} (h : Tor D P Q) : Tor (flushF 0 D) P Q := by
  refine ⟨h.n, h.bad, h.med, fun k hk => ?_⟩
  show flF D.buf 0 8 (k : Int) = none ∨ ∃ f, flF D.buf 0 8 (k : Int) = some (Q k, f)
  unfold flF
  rw [if_pos (by omega)]
  rcases h.buf k hk with q | ⟨f, q⟩
  · rw [q]; exact .inl rfl
  · rw [q]; exact .inr ⟨true, rfl⟩
theorem Tor.persist {D : DevS} {P Q : Nat → Nat} (h : Tor D P Q) (S : Nat → Bool) (hS : ∀ k : Nat, k < 8 → S k = true → D.buf (k : Int) ≠ none) : ∀ k, k < 8 → perMed D S k = P k ∨ perMed D S k = Q k := by
  intro k hk
  unfold perMed
  by_cases c : S k = true ∧ D.bad (k / 8) = false
  · rw [if_pos c]
    rcases h.buf k hk with q | ⟨f, q⟩
    · exact absurd q (hS k hk c.1)
    · rw [q]; exact .inr rfl
  · rw [if_neg c]; exact h.med k hk
theorem Tor.fence {D : DevS} {P Q : Nat → Nat} (h : Tor D P Q) : Tor (fenceF D) P Q := by
  refine ⟨h.n, h.bad, h.persist (fluS D) (fun k hk e q => by unfold fluS at e; rw [q] at e; cases e), fun k hk => ?_⟩
  show perBuf D (fluS D) (k : Int) = none ∨ ∃ f, perBuf D (fluS D) (k : Int) = some (Q k, f)
  unfold perBuf
  split
  · exact .inl rfl
  · exact h.buf k hk
/-- The words below i are pending. -/
def Upd (D : DevS) (Q : Nat → Nat) (i : Nat) : Prop := ∀ k : Nat, k < i → ∃ f, D.buf (k : Int) = some (Q k, f)
theorem op_cases {D : DevS} {t : Bool} (ho : D.off = false) (ht : t = true) : (opE D t = 6 ∧ ∀ f, opD D t f = { D with fuse := 0, off := true }) ∨ (opE D t = 0 ∧ ∀ f, opD D t f = f (lit D)) := by
  have hr : reachE D t = 0 := by unfold reachE; rw [ho, ht]; rfl
  by_cases hf : D.fuse = 1
  · exact .inl ⟨opE_fuse hr hf, fun f => opD_fuse hr hf⟩
  · exact .inr ⟨opE_ok hr hf, fun f => opD_ok hr hf⟩
theorem stos_tor (P Q : Nat → Nat) (m : Nat) (f : Nat → Nat) (hm : m ≤ 8) (hf : ∀ j, j < m → f j = Q j) : ∀ (r i : Nat) (D : DevS), i + r = m → Tor D P Q → D.off = false → Upd D Q i →
    ∃ E, Tor E P Q ∧ ((stos 0 0 f r i D = (0, E) ∧ E.off = false ∧ ∀ k, k < m → E.med k = Q k) ∨ (stos 0 0 f r i D = (6, E) ∧ E.off = true))
  | 0, i, D, hi, h, ho, hu => by
    obtain rfl : i = m := by omega
    unfold stos finS
    rcases op_cases (t := isLine D ((0 : Nat) : Int)) ho (by unfold isLine; rw [decide_eq_true_eq, h.n]; omega) with ⟨e1, d1⟩ | ⟨e1, d1⟩
    · rw [e1, if_neg (by omega), d1]
      exact ⟨_, h.cut, .inr ⟨rfl, rfl⟩⟩
    · rw [e1, if_pos rfl, d1]
      have h2 : Tor (flushF ((0 : Nat) : Int) (lit D)) P Q := h.lit.flush
      have o2 : (flushF ((0 : Nat) : Int) (lit D)).off = false := ho
      have u2 : ∀ k : Nat, k < i → (flushF ((0 : Nat) : Int) (lit D)).buf (k : Int) = some (Q k, true) := fun k hk => by
        obtain ⟨fl, q⟩ := hu k hk
        show flF D.buf 0 8 (k : Int) = _
        unfold flF
        rw [if_pos (by omega), q]
        rfl
      obtain ⟨D2, hD2⟩ : ∃ D2, flushF ((0 : Nat) : Int) (lit D) = D2 := ⟨_, rfl⟩
      rw [hD2] at h2 o2 u2 ⊢
      rcases op_cases (D := D2) (t := true) o2 rfl with ⟨e2, d2⟩ | ⟨e2, d2⟩
      · rw [e2, d2]
        exact ⟨_, h2.cut, .inr ⟨rfl, rfl⟩⟩
      · rw [e2, d2]
        refine ⟨_, h2.lit.fence, .inl ⟨rfl, o2, fun k hk => ?_⟩⟩
        show perMed (lit D2) (fluS (lit D2)) k = Q k
        have hs : fluS (lit D2) k = true := by
          unfold fluS
          rw [show (lit D2).buf (k : Int) = some (Q k, true) from u2 k hk]
          rfl
        unfold perMed
        rw [if_pos ⟨hs, by rw [show k / 8 = 0 by omega]; exact h2.bad⟩, show (lit D2).buf (k : Int) = some (Q k, true) from u2 k hk]
        rfl
  | r + 1, i, D, hi, h, ho, hu => by
    unfold stos
    rw [show 8 * 0 + 0 + i = i by omega]
    rcases op_cases (t := isWord D ((i : Nat) : Int)) ho (by unfold isWord; rw [decide_eq_true_eq, h.n]; omega) with ⟨e1, d1⟩ | ⟨e1, d1⟩
    · rw [e1, if_neg (by omega), d1]
      exact ⟨_, h.cut, .inr ⟨rfl, rfl⟩⟩
    · rw [e1, if_pos rfl, d1]
      refine stos_tor P Q m f hm hf r (i + 1) _ (by omega) (h.lit.store i (f i) (hf i (by omega))) ho fun k hk => ?_
      show ∃ fl, updZ D.buf (i : Int) (some (f i, false)) (k : Int) = some (Q k, fl)
      unfold updZ
      by_cases c : k = i
      · subst c; rw [if_pos rfl, hf k (by omega)]; exact ⟨false, rfl⟩
      · rw [if_neg (by omega)]; exact hu k (by omega)
theorem Tor.boot {D : DevS} {P Q : Nat → Nat} (h : Tor D P Q) {L : List Nat} (kp : Nat → Bool) (hL : IsPend D L) : (∀ k, k < 8 → (bootD D L kp).med k = P k ∨ (bootD D L kp).med k = Q k) ∧ Calm (bootD D L kp) ∧ (bootD D L kp).n = 1 ∧ ∀ k, k < 8 → D.med k = Q k → (bootD D L kp).med k = Q k := by
  have hS : ∀ k : Nat, bootS L kp k = true → D.buf (k : Int) ≠ none := fun k e => by
    by_cases c : k ∈ L
    · exact (hL.2 k).1 c
    · exfalso
      have : bootS L kp k = false := by
        unfold bootS
        rw [List.any_eq_false]
        intro j _ e
        rw [Bool.and_eq_true, decide_eq_true_eq] at e
        exact c (List.mem_of_getElem? e.2)
      rw [this] at e
      cases e
  refine ⟨h.persist _ fun k _ => hS k, ⟨rfl, rfl, fun _ => rfl⟩, h.n, fun k hk q => ?_⟩
  show perMed D (bootS L kp) k = Q k
  unfold perMed
  by_cases c : bootS L kp k = true ∧ D.bad (k / 8) = false
  · rw [if_pos c]
    rcases h.buf k hk with r | ⟨f, r⟩
    · exact absurd r (hS k c.1)
    · rw [r]; rfl
  · rw [if_neg c]; exact q

/-! ### The texts -/
theorem bytes_eq {x y : ByteArray} (hx : x.size = 64) (hy : y.size = 64) (h : ∀ k, k < 8 → wdL x.data.toList k = wdL y.data.toList k) : x = y := by
  apply ByteArray.ext
  apply Array.ext'
  have e1 := cat_wdL 8 x.data.toList hx
  have e2 := cat_wdL 8 y.data.toList hy
  rw [← e1, ← e2]
  congr 1
  apply List.map_congr_left
  intro k hk
  exact h k (by simpa using hk)
def gotS (D : DevS) : ByteArray := ⟨(getT D 0).toArray⟩
theorem gotS_size (D : DevS) : (gotS D).size = 64 := by
  show (getT D 0).toArray.size = 64
  rw [List.size_toArray]
  unfold getT
  rw [catL_length]
  rfl
theorem gotS_word {D : DevS} (hc : Calm D) (hm : ∀ i, D.med i < 18446744073709551616) (k : Nat) (hk : k < 8) : wdL (gotS D).data.toList k = D.med k := by
  have e : (gotS D).data.toList = catL [D.med 0, D.med 1, D.med 2, D.med 3, D.med 4, D.med 5, D.med 6, D.med 7] := by
    show getT D 0 = _
    unfold getT
    rw [calm_load hc, calm_load hc, calm_load hc, calm_load hc, calm_load hc, calm_load hc, calm_load hc, calm_load hc]
  rw [e]
  refine wdL_all _ (fun n hn => ?_) k _ ?_
  · simp only [List.mem_cons, List.not_mem_nil, or_false] at hn
    rcases hn with rfl | rfl | rfl | rfl | rfl | rfl | rfl | rfl <;> exact hm _
  · rcases (show k = 0 ∨ k = 1 ∨ k = 2 ∨ k = 3 ∨ k = 4 ∨ k = 5 ∨ k = 6 ∨ k = 7 by omega) with rfl | rfl | rfl | rfl | rfl | rfl | rfl | rfl <;> rfl
/-- The first word of B, the others of A. -/
def oneS (A B : ByteArray) : ByteArray := B.extract 0 8 ++ A.extract 8 64
theorem oneS_data {A B : ByteArray} : (oneS A B).data.toList = B.data.toList.take 8 ++ (A.data.toList.drop 8).take 56 := by
  unfold oneS
  rw [ByteArray.data_append, Array.toList_append]
  simp only [ByteArray.data_extract, Array.toList_extract, List.extract_eq_take_drop, List.drop_zero]
theorem oneS_size {A B : ByteArray} (hA : A.size = 64) (hB : B.size = 64) : (oneS A B).size = 64 := by
  show (oneS A B).data.toList.length = 64
  have a : A.data.toList.length = 64 := hA
  have b : B.data.toList.length = 64 := hB
  rw [oneS_data, List.length_append, List.length_take, List.length_take, List.length_drop, a, b]
  rfl
theorem oneS_word {A B : ByteArray} (hA : A.size = 64) (hB : B.size = 64) (k : Nat) (hk : k < 8) : wdL (oneS A B).data.toList k = if k = 0 then wdL B.data.toList 0 else wdL A.data.toList k := by
  have a : A.data.toList.length = 64 := hA
  have b : B.data.toList.length = 64 := hB
  have t8 : (B.data.toList.take 8).length = 8 := by rw [List.length_take, b]; rfl
  unfold wdL
  rw [oneS_data]
  by_cases c : k = 0
  · subst c
    rw [if_pos rfl, Nat.mul_zero, List.drop_zero, List.drop_zero, List.take_append_of_le_length (by rw [t8]; omega), List.take_take, Nat.min_self]
  · rw [if_neg c, show 8 * k = (B.data.toList.take 8).length + (8 * k - 8) by rw [t8]; omega, List.drop_append, List.drop_eq_nil_of_le (by omega), List.nil_append, t8, List.drop_take, List.drop_drop, List.take_take]
    rw [show 8 + (8 * k - 8) - 8 = 8 * k - 8 by omega, show 8 + (8 * k - 8) = 8 * k by omega, Nat.min_eq_left (by omega)]

end Go.Proofs.YtdgcninmpcmdcaaGreat

/-
  LineTorn, the walk.
-/
namespace Go.Proofs.YtdgcninmpcmdcaaGreat
open Go.RowKit
set_option linter.unusedVariables false

theorem keep_of {w0 w1 : World} {v : Value} {kf : Nat → Bool} (h : w1.ownsRow w0.heap.size 4 1 v 8 ((List.range 8).map fun j => .bool (kf j))) : KeepIs w1 v 8 (fun j => if j < 8 then kf j else false) := by
  have hcells := fun g (hg : v.ownBlock = some g) => h.cells hg
  rcases h.2 with ⟨_, h0⟩ | ⟨g, cap, cur, rfl, hg, hh, _⟩
  · omega
  · refine ⟨some ⟨g, 0, none⟩, cap, rfl, fun j hj => ⟨g, 0, rfl, (Array.getElem?_eq_some_iff.1 hh).1, ?_⟩, fun j hj => if_neg (by omega), by unfold maxLen; omega⟩
    have := hcells g rfl j (.bool (kf j)) (by rw [List.getElem?_map, List.getElem?_range hj]; rfl)
    rw [addp] at this
    rw [Nat.zero_add, this]
    dsimp only
    rw [if_pos hj]

theorem KeepIs.grT {W W' : World} {v : Value} {kl : Nat} {kp : Nat → Bool} (h : KeepIs W v kl kp) (g : Gr [] W W') : KeepIs W' v kl kp := by
  obtain ⟨ao, kc, rfl, h1, h2⟩ := h
  refine ⟨ao, kc, rfl, fun j hj => ?_, h2⟩
  obtain ⟨b, o, e, hb, hc⟩ := h1 j hj
  exact ⟨b, o, e, Nat.lt_of_lt_of_le hb g.size, (g.cell0 hb).trans hc⟩
theorem torn_round (s : ByteArray) (k v : Nat) (h : k < s.size) (h8 : k < 8) (hv : v = getL ((s.data.toList.take 8).drop (k + 1))) :
    bits .or .u64 (IntKind.u64.wrap ((v : Int) * 256)) (IntKind.u64.wrap (s[k].toNat : Int)) = ((getL ((s.data.toList.take 8).drop k) : Nat) : Int) := by
  have hl : k < s.data.toList.length := by simpa using h
  have hlt : k < (s.data.toList.take 8).length := by rw [List.length_take]; omega
  have hb : s[k].toNat < 256 := s[k].toNat_lt
  have es : (s.data.toList.take 8)[k] = s[k] := by rw [List.getElem_take]; rfl
  have hv2 : v < 256 ^ 7 := by
    rw [hv]
    refine Nat.lt_of_lt_of_le (getL_lt _) (Nat.pow_le_pow_right (by omega) ?_)
    rw [List.length_drop, List.length_take]
    omega
  have hv3 : v * 256 < 18446744073709551616 := by
    have : (256 : Nat) ^ 7 = 72057594037927936 := by decide
    omega
  have w0 : IntKind.u64.wrap (s[k].toNat : Int) = (s[k].toNat : Int) := IntWalk.u64_in _ (by omega)
  have w1 : IntKind.u64.wrap ((v : Int) * 256) = ((v * 256 : Nat) : Int) := by
    have c : (v : Int) * 256 = ((v * 256 : Nat) : Int) := by omega
    rw [c, IntKind.wrap_u64]; omega
  have e : v * 256 ||| s[k].toNat = s[k].toNat + 256 * v := by
    have q := Nat.two_pow_add_eq_or_of_lt (i := 8) (b := s[k].toNat) (by omega) v
    rw [Nat.mul_comm v 256]
    have p8 : (2 : Nat) ^ 8 = 256 := by decide
    rw [p8] at q
    omega
  rw [w0, w1, u64_or_nat _ _ hv3 (by omega), e, List.drop_eq_getElem_cons hlt, es, hv]
  rfl
theorem mixB_of {A B G : ByteArray} (hA : A.size = 64) (hB : B.size = 64) (hG : G.size = 64) (h : ∀ j, j < 8 → wdL G.data.toList j = wdL A.data.toList j ∨ wdL G.data.toList j = wdL B.data.toList j) : mixB A B G = true := by
  unfold mixB
  rw [decide_eq_true ⟨hA, hB, hG⟩, Bool.true_and, List.all_eq_true]
  intro j hj
  rw [List.mem_range] at hj
  rcases h j hj with q | q <;> simp [q]
/-- What Off, Boot and Get answer behind a Put, done or not. -/
theorem after_put {a : DevA} {E : DevS} {P Q : Nat → Nat} {c kl : Nat} {kv : Value} {kp : Nat → Bool} {W : World} (d : DevIs W a E) (b : Bd E c) (hc : c < 1000000) (h : Tor E P Q) (hk : KeepIs W kv kl kp) :
    Calls Tryz.prog 18 #[.pointer (some ⟨a.bd, 0, none⟩), kv] W fun e w' => ∃ E', e = .returned (.tuple #[]) ∧ DevIs w' a E' ∧ Gr a.all W w' ∧ Calm E' ∧ E'.n = 1 ∧ (∀ k, k < 8 → wdL (gotS E').data.toList k = P k ∨ wdL (gotS E').data.toList k = Q k) ∧ ∀ k, k < 8 → E.med k = Q k → wdL (gotS E').data.toList k = Q k := by
  refine (boot_any a E kv kl kp W d hk (fun l => by have := b.2 l; omega) (by have := b.1; omega)).mono ?_
  rintro e w' ⟨rfl, ⟨L, hL, d2⟩, g⟩
  obtain ⟨h1, h2, h3, h4⟩ := h.boot kp hL
  refine ⟨_, rfl, d2, g, h2, h3, fun k hk => ?_, fun k hk q => ?_⟩
  · rw [gotS_word h2 d2.ok.medB k hk]; exact h1 k hk
  · rw [gotS_word h2 d2.ok.medB k hk]; exact h4 k hk q

end Go.Proofs.YtdgcninmpcmdcaaGreat
