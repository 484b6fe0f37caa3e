/-
  PiAq: LnG, LnH, LnI, SpAa, SpG, SpH.
-/
import Derived.Test.YtjbhallhmnahbaaGreatPiAp
import Derived.Test.YtjbhallhmnahbaaGreatPiAo
import Derived.Test.YtjbhallhmnahbaaGreatPiAn
import Derived.Deep.QuietTactic
import Derived.BigQuiet
import Derived.Deep.RegionHeld3

set_option linter.unusedVariables false

/-
  Layer 4: Mixed, the reference's Mixed.
-/
namespace Go.Proofs.YtjbhallhmnahbaaGreat
open Go.RowKit
set_option linter.unusedVariables false

def mixB (was is got : ByteArray) : Bool := decide (was.size = 64 ∧ is.size = 64 ∧ got.size = 64) && (List.range 8).all fun k => wdL got.data.toList k == wdL was.data.toList k || wdL got.data.toList k == wdL is.data.toList k
theorem words_gen (s : ByteArray) (w : World) (hs : s.size ≤ maxLen) : Calls Tryz.prog 87 #[.string s] w fun e w' => ∃ (n0 n1 n2 n3 n4 n5 n6 n7 : Nat) (ev : Int), e = .returned (.tuple #[.agg #[.int .u64 (n0 : Int), .int .u64 (n1 : Int), .int .u64 (n2 : Int), .int .u64 (n3 : Int), .int .u64 (n4 : Int), .int .u64 (n5 : Int), .int .u64 (n6 : Int), .int .u64 (n7 : Int)], .int .i64 ev]) ∧
    ((ev = 0 ∧ s.size = 64 ∧ ∀ k, k < 8 → [n0, n1, n2, n3, n4, n5, n6, n7][k]? = some (wdL s.data.toList k)) ∨ (ev = 2 ∧ s.size ≠ 64)) ∧ Gr [] w w' := by
  by_cases h : s.size = 64
  · refine (words_yes s w h).mono ?_
    rintro e w' ⟨rfl, g⟩
    refine ⟨_, _, _, _, _, _, _, _, _, rfl, .inl ⟨rfl, h, fun k hk => ?_⟩, .ofBelow g⟩
    rcases (show k = 0 ∨ k = 1 ∨ k = 2 ∨ k = 3 ∨ k = 4 ∨ k = 5 ∨ k = 6 ∨ k = 7 by omega) with rfl | rfl | rfl | rfl | rfl | rfl | rfl | rfl <;> rfl
  · refine (words_no s w hs h).mono ?_
    rintro e w' ⟨rfl, g⟩
    exact ⟨0, 0, 0, 0, 0, 0, 0, 0, 2, rfl, .inr ⟨rfl, h⟩, .ofBelow g⟩
theorem arr8_at (n0 n1 n2 n3 n4 n5 n6 n7 k n : Nat) (h : [n0, n1, n2, n3, n4, n5, n6, n7][k]? = some n) : (#[Value.int .u64 (n0 : Int), Value.int .u64 (n1 : Int), Value.int .u64 (n2 : Int), Value.int .u64 (n3 : Int), Value.int .u64 (n4 : Int), Value.int .u64 (n5 : Int), Value.int .u64 (n6 : Int), Value.int .u64 (n7 : Int)] : Array Value)[k]? = some (.int .u64 (n : Int)) := by
  have hk : k < 8 := by have := (List.getElem?_eq_some_iff.1 h).1; simpa using this
  rcases (show k = 0 ∨ k = 1 ∨ k = 2 ∨ k = 3 ∨ k = 4 ∨ k = 5 ∨ k = 6 ∨ k = 7 by omega) with rfl | rfl | rfl | rfl | rfl | rfl | rfl | rfl <;> (simp at h; subst h; rfl)

set_option maxRecDepth 100000 in
set_option maxHeartbeats 4000000 in
theorem mixed_any (s t u : ByteArray) (w : World) (hs : s.size ≤ maxLen) (ht : t.size ≤ maxLen) (hu : u.size ≤ maxLen) :
    Calls Tryz.prog 42 #[.string s, .string t, .string u] w fun e w' => e = .returned (.bool (mixB s t u)) ∧ Gr [] w w' := by
  have HS := Lib.hid (fun W => words_gen s W hs)
  have HT := Lib.hid (fun W => words_gen t W ht)
  have HU := Lib.hid (fun W => words_gen u W hu)
  clear hs ht hu
  go_enter Tryz.func42, Tryz.ntmps42
  go_wp2_with fail
  refine (HS.out _).mono ?_
  rintro e w1 ⟨a0, a1, a2, a3, a4, a5, a6, a7, ea, rfl, ha, g1⟩
  have XA := Lib.hid (Holds.new w1 #[Value.int .u64 (a0 : Int), Value.int .u64 (a1 : Int), Value.int .u64 (a2 : Int), Value.int .u64 (a3 : Int), Value.int .u64 (a4 : Int), Value.int .u64 (a5 : Int), Value.int .u64 (a6 : Int), Value.int .u64 (a7 : Int)] 105)
  have GA := Lib.hid (g1.alloc (Obj.cells #[Value.int .u64 (a0 : Int), Value.int .u64 (a1 : Int), Value.int .u64 (a2 : Int), Value.int .u64 (a3 : Int), Value.int .u64 (a4 : Int), Value.int .u64 (a5 : Int), Value.int .u64 (a6 : Int), Value.int .u64 (a7 : Int)] 105))
  have HA := Lib.hid ha
  clear g1 ha
  go_wp2_with fail
  generalize w1.alloc (Obj.cells #[Value.int .u64 (a0 : Int), Value.int .u64 (a1 : Int), Value.int .u64 (a2 : Int), Value.int .u64 (a3 : Int), Value.int .u64 (a4 : Int), Value.int .u64 (a5 : Int), Value.int .u64 (a6 : Int), Value.int .u64 (a7 : Int)] 105) = wa at *
  generalize w1.heap.size = ba at *
  refine (HT.out _).mono ?_
  rintro e w2 ⟨b0, b1, b2, b3, b4, b5, b6, b7, eb, rfl, hb, g2⟩
  have XB := Lib.hid (Holds.new w2 #[Value.int .u64 (b0 : Int), Value.int .u64 (b1 : Int), Value.int .u64 (b2 : Int), Value.int .u64 (b3 : Int), Value.int .u64 (b4 : Int), Value.int .u64 (b5 : Int), Value.int .u64 (b6 : Int), Value.int .u64 (b7 : Int)] 105)
  have GB := Lib.hid (g2.alloc (Obj.cells #[Value.int .u64 (b0 : Int), Value.int .u64 (b1 : Int), Value.int .u64 (b2 : Int), Value.int .u64 (b3 : Int), Value.int .u64 (b4 : Int), Value.int .u64 (b5 : Int), Value.int .u64 (b6 : Int), Value.int .u64 (b7 : Int)] 105))
  have HB := Lib.hid hb
  clear g2 hb
  go_wp2_with fail
  generalize w2.alloc (Obj.cells #[Value.int .u64 (b0 : Int), Value.int .u64 (b1 : Int), Value.int .u64 (b2 : Int), Value.int .u64 (b3 : Int), Value.int .u64 (b4 : Int), Value.int .u64 (b5 : Int), Value.int .u64 (b6 : Int), Value.int .u64 (b7 : Int)] 105) = wb at *
  generalize w2.heap.size = bb at *
  refine (HU.out _).mono ?_
  rintro e w3 ⟨c0, c1, c2, c3, c4, c5, c6, c7, ec, rfl, hc, g3⟩
  have XC := Holds.new w3 #[Value.int .u64 (c0 : Int), Value.int .u64 (c1 : Int), Value.int .u64 (c2 : Int), Value.int .u64 (c3 : Int), Value.int .u64 (c4 : Int), Value.int .u64 (c5 : Int), Value.int .u64 (c6 : Int), Value.int .u64 (c7 : Int)] 105
  have GC := Lib.hid (g3.alloc (Obj.cells #[Value.int .u64 (c0 : Int), Value.int .u64 (c1 : Int), Value.int .u64 (c2 : Int), Value.int .u64 (c3 : Int), Value.int .u64 (c4 : Int), Value.int .u64 (c5 : Int), Value.int .u64 (c6 : Int), Value.int .u64 (c7 : Int)] 105))
  obtain ⟨k0, k1, k2, k3, k4, k5, k6, k7⟩ := XC.eight
  have HCC := Lib.hid hc
  clear g3 hc XC
  have HG := Lib.hid ((GA.out.trans GB.out).trans GC.out)
  rcases HA.out with ⟨rfl, sa, la⟩ | ⟨rfl, sa⟩
  · have HLA := Lib.hid (And.intro sa la)
    clear sa la HA
    rcases HB.out with ⟨rfl, sb, lb⟩ | ⟨rfl, sb⟩
    · have HLB := Lib.hid (And.intro sb lb)
      clear sb lb HB
      rcases HCC.out with ⟨rfl, sc, lc⟩ | ⟨rfl, sc⟩
      · have HLC := Lib.hid (And.intro sc lc)
        have HE := Lib.hid (show mixB s t u = (List.range 8).all fun k => wdL u.data.toList k == wdL s.data.toList k || wdL u.data.toList k == wdL t.data.toList k by unfold mixB; rw [decide_eq_true ⟨HLA.out.1, HLB.out.1, sc⟩, Bool.true_and])
        clear sc lc HCC
        go_wp2_with fail
        clear k0 k1 k2 k3 k4 k5 k6 k7
        have XA3 := Lib.hid ((XA.out.gr0 GB.out).gr0 GC.out)
        have XB3 := Lib.hid (XB.out.gr0 GC.out)
        generalize w3.alloc (Obj.cells #[Value.int .u64 (c0 : Int), Value.int .u64 (c1 : Int), Value.int .u64 (c2 : Int), Value.int .u64 (c3 : Int), Value.int .u64 (c4 : Int), Value.int .u64 (c5 : Int), Value.int .u64 (c6 : Int), Value.int .u64 (c7 : Int)] 105) = wc at *
        go_loopw [41] (fun z wr => ∃ k : Nat, k ≤ 8 ∧ z = .int .i64 (k : Int) ∧ (∀ j, j < k → (wdL u.data.toList j == wdL s.data.toList j || wdL u.data.toList j == wdL t.data.toList j) = true) ∧ wc = wr) (fun z _ => 8 - (intOf z).toNat)
        case atStart => exact ⟨0, by omega, rfl, fun j hj => by omega, rfl⟩
        case round =>
          obtain ⟨k, hk, rfl, hall, rfl⟩ := hrel
          have HALL := Lib.hid hall
          clear hall
          by_cases hlt : k < 8
          · have hd : decide ((k : Int) < 8) = true := by simp; omega
            obtain ⟨G, hG⟩ : ∃ G, wdL u.data.toList k = G := ⟨_, rfl⟩
            obtain ⟨A, hA⟩ : ∃ A, wdL s.data.toList k = A := ⟨_, rfl⟩
            obtain ⟨B, hB⟩ : ∃ B, wdL t.data.toList k = B := ⟨_, rfl⟩
            have hix := index8 c0 c1 c2 c3 c4 c5 c6 c7 k G (by rw [← hG]; exact HLC.out.2 k hlt)
            have e1 : wc.cell? ⟨ba, k, none⟩ = some (.int .u64 (A : Int)) := by rw [XA3.out.cell]; exact arr8_at a0 a1 a2 a3 a4 a5 a6 a7 k A (by rw [← hA]; exact HLA.out.2 k hlt)
            have e2 : wc.cell? ⟨bb, k, none⟩ = some (.int .u64 (B : Int)) := by rw [XB3.out.cell]; exact arr8_at b0 b1 b2 b3 b4 b5 b6 b7 k B (by rw [← hB]; exact HLB.out.2 k hlt)
            have hk0 : (0 : Int) ≤ (k : Int) := by omega
            have hk8 : (k : Int) < 8 := by omega
            by_cases hGA : G = A
            · have HN := Lib.hid (show ∀ j, j < k + 1 → (wdL u.data.toList j == wdL s.data.toList j || wdL u.data.toList j == wdL t.data.toList j) = true from fun j hj => by
                by_cases c : j = k
                · subst c; rw [hG, hA, hGA]; simp
                · exact HALL.out j (by omega))
              clear hG hA hB
              subst hGA
              go_wp2_with fail
              go_roundw
              case rel => exact ⟨k + 1, by omega, by go_num, HN.out, by first | rfl | trivial⟩
              case measure => simp [intOf]; omega
            · have d1 : ((G : Int) != (A : Int)) = true := by simp; omega
              have d2 : ((G : Int) == (A : Int)) = false := by simp; omega
              by_cases hGB : G = B
              · have HN := Lib.hid (show ∀ j, j < k + 1 → (wdL u.data.toList j == wdL s.data.toList j || wdL u.data.toList j == wdL t.data.toList j) = true from fun j hj => by
                  by_cases c : j = k
                  · subst c; rw [hG, hB, hGB]; simp
                  · exact HALL.out j (by omega))
                clear hG hA hB hGA
                subst hGB
                go_wp2_with fail
                go_roundw
                case rel => exact ⟨k + 1, by omega, by go_num, HN.out, by first | rfl | trivial⟩
                case measure => simp [intOf]; omega
              · have d3 : ((G : Int) != (B : Int)) = true := by simp; omega
                have d4 : ((G : Int) == (B : Int)) = false := by simp; omega
                have HN := Lib.hid (show ((List.range 8).all fun k => wdL u.data.toList k == wdL s.data.toList k || wdL u.data.toList k == wdL t.data.toList k) = false by
                  rw [List.all_eq_false]
                  exact ⟨k, List.mem_range.2 hlt, by rw [hG, hA, hB]; simp [hGA, hGB]⟩)
                clear hG hA hB hGA hGB
                go_wp2_with fail
                go_ret
                rw [HE.out, HN.out]
                exact ⟨rfl, HG.out⟩
          · obtain rfl : k = 8 := by omega
            have HN := Lib.hid (show ((List.range 8).all fun k => wdL u.data.toList k == wdL s.data.toList k || wdL u.data.toList k == wdL t.data.toList k) = true by
              rw [List.all_eq_true]
              intro j hj
              rw [List.mem_range] at hj
              exact HALL.out j hj)
            rw [show ((8 : Nat) : Int) = 8 from rfl]
            go_wp2_with fail
            go_ret
            rw [HE.out, HN.out]
            exact ⟨rfl, HG.out⟩
      · have HE := Lib.hid (show mixB s t u = false by unfold mixB; rw [decide_eq_false (fun q => sc q.2.2)]; rfl)
        clear sc HCC
        go_wp2_with fail
        go_ret
        rw [HE.out]
        exact ⟨rfl, HG.out⟩
    · have HE := Lib.hid (show mixB s t u = false by unfold mixB; rw [decide_eq_false (fun q => sb q.2.1)]; rfl)
      clear sb HB
      go_wp2_with fail
      go_ret
      rw [HE.out]
      exact ⟨rfl, HG.out⟩
  · have HE := Lib.hid (show mixB s t u = false by unfold mixB; rw [decide_eq_false (fun q => sa q.1)]; rfl)
    clear sa HA
    go_wp2_with fail
    go_ret
    rw [HE.out]
    exact ⟨rfl, HG.out⟩

/-! ### The reference's -/
theorem ext8 (s : ByteArray) (q : Nat) : (s.extract q (q + 8)).data.toList = (s.data.toList.drop q).take 8 := by
  simp only [ByteArray.data_extract, Array.toList_extract, List.extract_eq_take_drop]
  rw [show q + 8 - q = 8 by omega]
theorem getL_inj8 {l m : List UInt8} (hl : l.length = 8) (hm : m.length = 8) (h : getL l = getL m) : l = m := by
  rw [← putL_getL l, ← putL_getL m, h, hl, hm]
theorem bs_beq_false {x y : ByteArray} (h : x ≠ y) : (x.toList == y.toList) = false := by
  rw [beq_eq_false_iff_ne]
  intro e
  apply h
  apply ByteArray.ext
  apply Array.ext'
  rw [ByteArray.toList_eq, ByteArray.toList_eq] at e
  exact e
end Go.Proofs.YtjbhallhmnahbaaGreat

/-
  LineMixes.
-/
namespace Go.Proofs.YtjbhallhmnahbaaGreat
open Go.RowKit
set_option linter.unusedVariables false

/-- G's first words are A's or B's. -/
def MixTo (A B G : ByteArray) (k : Nat) : Prop := G.size = 8 * k ∧ ∀ j, j < k → wdL G.data.toList j = wdL A.data.toList j ∨ wdL G.data.toList j = wdL B.data.toList j
theorem MixTo.next {A B G X : ByteArray} {k : Nat} (h : MixTo A B G k) (hX : X = A ∨ X = B) (hs : X.size = 64) (hk : k < 8) : MixTo A B (G ++ X.extract (8 * k) (8 * k + 8)) (k + 1) := by
  have hg : G.data.toList.length = 8 * k := h.1
  have hx : (X.extract (8 * k) (8 * k + 8)).data.toList = (X.data.toList.drop (8 * k)).take 8 := ext8 X (8 * k)
  have hxl : X.data.toList.length = 64 := hs
  have e : (G ++ X.extract (8 * k) (8 * k + 8)).data.toList = G.data.toList ++ (X.data.toList.drop (8 * k)).take 8 := by
    rw [ByteArray.data_append, Array.toList_append, hx]
  refine ⟨?_, fun j hj => ?_⟩
  · show (G ++ X.extract (8 * k) (8 * k + 8)).data.toList.length = _
    rw [e, List.length_append, hg, List.length_take, List.length_drop, hxl]
    omega
  · by_cases c : j = k
    · subst c
      have q : wdL (G ++ X.extract (8 * j) (8 * j + 8)).data.toList j = wdL X.data.toList j := by
        unfold wdL
        rw [e, show 8 * j = G.data.toList.length by omega, List.drop_left, List.take_take, Nat.min_self]
      rcases hX with rfl | rfl
      · exact .inl q
      · exact .inr q
    · have q : wdL (G ++ X.extract (8 * k) (8 * k + 8)).data.toList j = wdL G.data.toList j := by
        unfold wdL
        rw [e, List.drop_append_of_le_length (by omega), List.take_append_of_le_length (by rw [List.length_drop, hg]; omega)]
      rw [q]
      exact h.2 j (by omega)
theorem MixTo.all {A B G : ByteArray} (hA : A.size = 64) (hB : B.size = 64) (h : MixTo A B G 8) : mixB A B G = true := by
  unfold mixB
  rw [decide_eq_true ⟨hA, hB, h.1⟩, Bool.true_and, List.all_eq_true]
  intro j hj
  rw [List.mem_range] at hj
  rcases h.2 j hj with q | q <;> simp [q]
end Go.Proofs.YtjbhallhmnahbaaGreat

/-
  LineTorn: what is left where the power fails.
-/
namespace Go.Proofs.YtjbhallhmnahbaaGreat
open Go.RowKit

/-- One line; each word lasts as it was or as it is to be; what is pending is to be. -/
structure Tor (D : DevS) (P Q : Nat → Nat) : Prop where
  n : D.n = 1
  bad : D.bad 0 = false
  med : ∀ k, k < 8 → D.med k = P k ∨ D.med k = Q k
  buf : ∀ k : Nat, k < 8 → D.buf (k : Int) = none ∨ ∃ f, D.buf (k : Int) = some (Q k, f)
theorem Tor.lit {D : DevS} {P Q : Nat → Nat} (h : Tor D P Q) : Tor (lit D) P Q := ⟨h.n, h.bad, h.med, h.buf⟩
theorem Tor.store {D : DevS} {P Q : Nat → Nat} (h : Tor D P Q) (i : Nat) (v : Nat) (hv : v = Q i) : Tor (storeF (i : Int) v D) P Q := by
  refine ⟨h.n, h.bad, h.med, fun k hk => ?_⟩
  show updZ D.buf (i : Int) (some (v, false)) (k : Int) = none ∨ _
  unfold updZ
  by_cases e : (k : Int) = (i : Int)
  · obtain rfl : k = i := by omega
    rw [if_pos e]
    exact .inr ⟨false, by show updZ D.buf (k : Int) (some (v, false)) (k : Int) = _; unfold updZ; rw [if_pos rfl, hv]⟩
  · rw [if_neg e]
    rcases h.buf k hk with q | ⟨f, q⟩
    · exact .inl q
    · exact .inr ⟨f, by show updZ D.buf (i : Int) (some (v, false)) (k : Int) = _; unfold updZ; rw [if_neg e]; exact q⟩
theorem Tor.flush {D : DevS} {P Q : Nat → Nat} (h : Tor D P Q) : Tor (flushF 0 D) P Q := by
  refine ⟨h.n, h.bad, h.med, fun k hk => ?_⟩
  show flF D.buf 0 8 (k : Int) = none ∨ ∃ f, flF D.buf 0 8 (k : Int) = some (Q k, f)
  unfold flF
  rw [if_pos (by omega)]
  rcases h.buf k hk with q | ⟨f, q⟩
  · rw [q]; exact .inl rfl
  · rw [q]; exact .inr ⟨true, rfl⟩
theorem Tor.persist {D : DevS} {P Q : Nat → Nat} (h : Tor D P Q) (S : Nat → Bool) (hS : ∀ k : Nat, k < 8 → S k = true → D.buf (k : Int) ≠ none) : ∀ k, k < 8 → perMed D S k = P k ∨ perMed D S k = Q k := by
  intro k hk
  unfold perMed
  by_cases c : S k = true ∧ D.bad (k / 8) = false
  · rw [if_pos c]
    rcases h.buf k hk with q | ⟨f, q⟩
    · exact absurd q (hS k hk c.1)
    · rw [q]; exact .inr rfl
  · rw [if_neg c]; exact h.med k hk
theorem Tor.fence {D : DevS} {P Q : Nat → Nat} (h : Tor D P Q) : Tor (fenceF D) P Q := by
  refine ⟨h.n, h.bad, h.persist (fluS D) (fun k hk e q => by unfold fluS at e; rw [q] at e; cases e), fun k hk => ?_⟩
  show perBuf D (fluS D) (k : Int) = none ∨ ∃ f, perBuf D (fluS D) (k : Int) = some (Q k, f)
  unfold perBuf
  split
  · exact .inl rfl
  · exact h.buf k hk
theorem op_cases {D : DevS} {t : Bool} (ho : D.off = false) (ht : t = true) : (opE D t = 6 ∧ ∀ f, opD D t f = { D with fuse := 0, off := true }) ∨ (opE D t = 0 ∧ ∀ f, opD D t f = f (lit D)) := by
  have hr : reachE D t = 0 := by unfold reachE; rw [ho, ht]; rfl
  by_cases hf : D.fuse = 1
  · exact .inl ⟨opE_fuse hr hf, fun f => opD_fuse hr hf⟩
  · exact .inr ⟨opE_ok hr hf, fun f => opD_ok hr hf⟩
theorem Tor.boot {D : DevS} {P Q : Nat → Nat} (h : Tor D P Q) {L : List Nat} (kp : Nat → Bool) (hL : IsPend D L) : (∀ k, k < 8 → (bootD D L kp).med k = P k ∨ (bootD D L kp).med k = Q k) ∧ Calm (bootD D L kp) ∧ (bootD D L kp).n = 1 ∧ ∀ k, k < 8 → D.med k = Q k → (bootD D L kp).med k = Q k := by
  have hS : ∀ k : Nat, bootS L kp k = true → D.buf (k : Int) ≠ none := fun k e => by
    by_cases c : k ∈ L
    · exact (hL.2 k).1 c
    · exfalso
      have : bootS L kp k = false := by
        unfold bootS
        rw [List.any_eq_false]
        intro j _ e
        rw [Bool.and_eq_true, decide_eq_true_eq] at e
        exact c (List.mem_of_getElem? e.2)
      rw [this] at e
      cases e
  refine ⟨h.persist _ fun k _ => hS k, ⟨rfl, rfl, fun _ => rfl⟩, h.n, fun k hk q => ?_⟩
  show perMed D (bootS L kp) k = Q k
  unfold perMed
  by_cases c : bootS L kp k = true ∧ D.bad (k / 8) = false
  · rw [if_pos c]
    rcases h.buf k hk with r | ⟨f, r⟩
    · exact absurd r (hS k c.1)
    · rw [r]; rfl
  · rw [if_neg c]; exact q

/-! ### The texts -/
theorem bytes_eq {x y : ByteArray} (hx : x.size = 64) (hy : y.size = 64) (h : ∀ k, k < 8 → wdL x.data.toList k = wdL y.data.toList k) : x = y := by
  apply ByteArray.ext
  apply Array.ext'
  have e1 := cat_wdL 8 x.data.toList hx
  have e2 := cat_wdL 8 y.data.toList hy
  rw [← e1, ← e2]
  congr 1
  apply List.map_congr_left
  intro k hk
  exact h k (by simpa using hk)
end Go.Proofs.YtjbhallhmnahbaaGreat

/-
  Layer 5: a Put or PutWord on a device that may have a fuse: done whole, or cut before its fence.
-/
namespace Go.Proofs.YtjbhallhmnahbaaGreat
open Go.RowKit
set_option linter.unusedVariables false

structure Live (D : DevS) : Prop where
  off : D.off = false
  buf : ∀ z, D.buf z = none
structure StoL (D D' : DevS) (B i : Nat) (f : Nat → Nat) : Prop where
  n : D'.n = D.n
  off : D'.off = false
  bad : D'.bad = D.bad
  med : D'.med = D.med
  buf : ∀ z : Int, D'.buf z = if (B : Int) ≤ z ∧ z < (B : Int) + i then some (f (z - B).toNat, false) else none
/-- Done whole. -/
structure Whole (D E : DevS) (l B m : Nat) (f : Nat → Nat) : Prop where
  live : Live E
  n : E.n = D.n
  bad : E.bad = D.bad
  med : ∀ x, E.med x = if B ≤ x ∧ x < B + m ∧ D.bad l = false then f (x - B) else D.med x
/-- Cut: nothing lasts yet, some of it is pending. -/
structure Torn (D E : DevS) (B m : Nat) (f : Nat → Nat) : Prop where
  off : E.off = true
  n : E.n = D.n
  bad : E.bad = D.bad
  med : E.med = D.med
  pend : ∀ z v, E.buf z = some v → ∃ j, j < m ∧ z = ((B + j : Nat) : Int) ∧ v.1 = f j
theorem StoL.torn {D D' : DevS} {B i m : Nat} {f : Nat → Nat} (h : StoL D D' B i f) (hi : i ≤ m) : Torn D { D' with fuse := 0, off := true } B m f :=
  ⟨rfl, h.n, h.bad, h.med, fun z v hz => by
    have hz2 : D'.buf z = some v := hz
    rw [h.buf z] at hz2
    split at hz2
    · rename_i c
      injection hz2 with hz2
      exact ⟨(z - B).toNat, by omega, by omega, by rw [← hz2]⟩
    · cases hz2⟩
theorem stos_any (D : DevS) (l k m : Nat) (f : Nat → Nat) (hl : l < D.n) (hk : k + m ≤ 8) : ∀ (r i : Nat) (D' : DevS), i + r = m → StoL D D' (8 * l + k) i f →
    (∃ E, stos l k f r i D' = (0, E) ∧ Whole D E l (8 * l + k) m f) ∨ (∃ E, stos l k f r i D' = (6, E) ∧ Torn D E (8 * l + k) m f)
  | 0, i, D', hi, h => by
    obtain rfl : i = m := by omega
    unfold stos finS
    rcases op_cases (D := D') (t := isLine D' (l : Int)) h.off (by unfold isLine; rw [decide_eq_true_eq, h.n]; omega) with ⟨h1, h2⟩ | ⟨h1, h2⟩
    · rw [h1, if_neg (by omega), h2]
      exact .inr ⟨_, rfl, h.torn (Nat.le_refl _)⟩
    · rw [h1, if_pos rfl, h2]
      obtain ⟨D2, hD2⟩ : ∃ D2, D2 = flushF (l : Int) (lit D') := ⟨_, rfl⟩
      rw [← hD2]
      have o2 : D2.off = false := by rw [hD2]; exact h.off
      have b2 : ∀ z : Int, D2.buf z = if ((8 * l + k : Nat) : Int) ≤ z ∧ z < ((8 * l + k : Nat) : Int) + i then some (f (z - ((8 * l + k : Nat) : Int)).toNat, true) else none := fun z => by
        rw [hD2]
        show flF D'.buf ((l : Int).toNat) 8 z = _
        rw [Int.toNat_natCast]
        unfold flF
        rw [h.buf z]
        by_cases c : ((8 * l + k : Nat) : Int) ≤ z ∧ z < ((8 * l + k : Nat) : Int) + i
        · rw [if_pos c, if_pos c, if_pos (by omega)]; rfl
        · rw [if_neg c, if_neg c]; split <;> rfl
      have n2 : D2.n = D.n := by rw [hD2]; exact h.n
      have bd2 : D2.bad = D.bad := by rw [hD2]; exact h.bad
      have md2 : D2.med = D.med := by rw [hD2]; exact h.med
      rcases op_cases (D := D2) (t := true) o2 rfl with ⟨q1, q2⟩ | ⟨q1, q2⟩
      · rw [q1, q2]
        refine .inr ⟨_, rfl, rfl, n2, bd2, md2, fun z v hz => ?_⟩
        have hz2 : D2.buf z = some v := hz
        rw [b2 z] at hz2
        split at hz2
        · injection hz2 with hz2
          exact ⟨(z - ((8 * l + k : Nat) : Int)).toNat, by omega, by omega, by rw [← hz2]⟩
        · cases hz2
      · rw [q1, q2]
        obtain ⟨D3, hD3⟩ : ∃ D3, D3 = lit D2 := ⟨_, rfl⟩
        rw [← hD3]
        have b3 : D3.buf = D2.buf := by rw [hD3]; rfl
        have n3 : D3.n = D.n := by rw [hD3]; exact n2
        have bd3 : D3.bad = D.bad := by rw [hD3]; exact bd2
        have md3 : D3.med = D.med := by rw [hD3]; exact md2
        have o3 : D3.off = false := by rw [hD3]; exact o2
        have s3 : ∀ x : Nat, fluS D3 x = decide (8 * l + k ≤ x ∧ x < 8 * l + k + i) := fun x => by
          unfold fluS
          rw [b3, b2]
          by_cases c : 8 * l + k ≤ x ∧ x < 8 * l + k + i
          · rw [if_pos (by omega), decide_eq_true c]; rfl
          · rw [if_neg (by omega), decide_eq_false c]; rfl
        refine .inl ⟨fenceF D3, rfl, ⟨o3, fun z => ?_⟩, n3, bd3, fun x => ?_⟩
        · show perBuf D3 (fluS D3) z = none
          unfold perBuf
          rw [s3, b3, b2]
          by_cases c : ((8 * l + k : Nat) : Int) ≤ z ∧ z < ((8 * l + k : Nat) : Int) + i
          · rw [if_pos ⟨by omega, by rw [decide_eq_true_eq]; omega⟩]
          · rw [if_neg c]; split <;> rfl
        · show perMed D3 (fluS D3) x = _
          unfold perMed
          rw [s3, b3, b2, bd3, md3]
          by_cases c : 8 * l + k ≤ x ∧ x < 8 * l + k + i
          · rw [decide_eq_true c, if_pos (show ((8 * l + k : Nat) : Int) ≤ (x : Int) ∧ (x : Int) < ((8 * l + k : Nat) : Int) + i by omega), show x / 8 = l by omega]
            cases hbl : D.bad l with
            | true => rw [if_neg (by simp), if_neg (by simp)]
            | false =>
              rw [if_pos ⟨rfl, rfl⟩, if_pos ⟨c.1, c.2, rfl⟩]
              show f ((x : Int) - ((8 * l + k : Nat) : Int)).toNat = _
              congr 1
              omega
          · rw [decide_eq_false c, if_neg (by simp), if_neg (fun e => c ⟨e.1, e.2.1⟩)]
  | r + 1, i, D', hi, h => by
    unfold stos
    rcases op_cases (D := D') (t := isWord D' ((8 * l + k + i : Nat) : Int)) h.off (by unfold isWord; rw [decide_eq_true_eq, h.n]; omega) with ⟨h1, h2⟩ | ⟨h1, h2⟩
    · rw [h1, if_neg (by omega), h2]
      exact .inr ⟨_, rfl, h.torn (by omega)⟩
    · rw [h1, if_pos rfl, h2]
      refine stos_any D l k m f hl hk r (i + 1) _ (by omega) ⟨h.n, h.off, h.bad, h.med, fun z => ?_⟩
      show updZ D'.buf ((8 * l + k + i : Nat) : Int) (some (f i, false)) z = _
      unfold updZ
      by_cases e : z = ((8 * l + k + i : Nat) : Int)
      · subst e
        rw [if_pos rfl, if_pos (by omega)]
        congr 3
        omega
      · rw [if_neg e, h.buf z]
        by_cases c : ((8 * l + k : Nat) : Int) ≤ z ∧ z < ((8 * l + k : Nat) : Int) + i
        · rw [if_pos c, if_pos (by omega)]
        · rw [if_neg c, if_neg (by omega)]
theorem StoL.start {D : DevS} (h : Live D) (B : Nat) (f : Nat → Nat) : StoL D D B 0 f := ⟨rfl, h.off, rfl, rfl, fun z => by rw [if_neg (by omega)]; exact h.buf z⟩
theorem put_live {D : DevS} {l : Nat} {s : ByteArray} (h : Live D) (hl : l < D.n) (hs : s.size = 64) :
    (∃ E, putE D (l : Int) s = (0, E) ∧ Whole D E l (8 * l) 8 (wdL s.data.toList)) ∨ (∃ E, putE D (l : Int) s = (6, E) ∧ Torn D E (8 * l) 8 (wdL s.data.toList)) := by
  unfold putE
  rw [if_neg (by simp [hs]), if_pos (by unfold isLine; rw [decide_eq_true_eq]; omega), Int.toNat_natCast]
  exact stos_any D l 0 8 (wdL s.data.toList) hl (by omega) 8 0 D (by omega) (.start h _ _)
theorem putword_live {D : DevS} {l k v : Nat} (h : Live D) (hl : l < D.n) (hk : k < 8) :
    (∃ E, pwE D (l : Int) (k : Int) v = (0, E) ∧ Whole D E l (8 * l + k) 1 (fun _ => v)) ∨ (∃ E, pwE D (l : Int) (k : Int) v = (6, E) ∧ Torn D E (8 * l + k) 1 (fun _ => v)) := by
  unfold pwE
  rw [if_neg (by omega), if_pos (by unfold isLine; rw [decide_eq_true_eq]; omega), Int.toNat_natCast, Int.toNat_natCast]
  exact stos_any D l k 1 (fun _ => v) hl (by omega) 1 0 D (by omega) (.start h _ _)
end Go.Proofs.YtjbhallhmnahbaaGreat

/-
  Layer 5: Format.
-/
namespace Go.Proofs.YtjbhallhmnahbaaGreat
open Go.RowKit

def zeroT : ByteArray := ⟨(catL [0, 0, 0, 0, 0, 0, 0, 0]).toArray⟩
theorem zeroT_size : zeroT.size = 64 := by
  show (catL _).toArray.size = 64
  rw [List.size_toArray, catL_length]; rfl
theorem zeroT_word {k : Nat} (h : k < 8) : wdL zeroT.data.toList k = 0 := by
  rcases (show k = 0 ∨ k = 1 ∨ k = 2 ∨ k = 3 ∨ k = 4 ∨ k = 5 ∨ k = 6 ∨ k = 7 by omega) with rfl | rfl | rfl | rfl | rfl | rfl | rfl | rfl <;> decide +kernel
structure Zero (D : DevS) : Prop where
  calm : Calm D
  med : ∀ x, D.med x = 0
theorem check_ok {p : PlanZ} {n : Int} (h : checkZ p n = 0) : okZ p = true ∧ p.a + sizeZ p ≤ n := by
  unfold checkZ at h
  by_cases hp : okZ p = true
  · rw [if_pos hp] at h
    refine ⟨hp, ?_⟩
    by_cases hn : n < p.a + sizeZ p
    · rw [if_pos hn] at h; omega
    · omega
  · rw [if_neg hp] at h; omega
section
variable {w : World} {a : DevA} {D : DevS} {p : PlanZ} {c : Nat}
theorem linesK {W : World} (h : DevIs W a D) : Calls Tryz.prog 43 #[.pointer (some ⟨a.bd, 0, none⟩)] W fun e w' => e = .returned (.int .i64 D.n) ∧ Below W.heap.size W w' :=
  (lines_any a D W h).mono (by rintro e w' ⟨rfl, rfl⟩; exact ⟨rfl, Below.refl _ _⟩)
theorem DevIs.kp {W : World} (h : DevIs w a D) (x : Kp w W) : DevIs W a D := h.gr0 (Gr.ofBelow x)
end
end Go.Proofs.YtjbhallhmnahbaaGreat

/-
  Layer 5: note.
-/
namespace Go.Proofs.YtjbhallhmnahbaaGreat
open Go.RowKit

/-- What the table's word of a spare says. -/
def noteBad (p : PlanZ) (k v : Nat) (B : BkS) : Prop := guardN v ≠ v ∨ B.used < k ∨ low48 v = 0 ∨ (p.l < (low48 v : Int) ∧ low48 v ≠ 65535)
instance (p : PlanZ) (k v : Nat) (B : BkS) : Decidable (noteBad p k v B) := by unfold noteBad; infer_instance
def noteB (k v : Nat) (B : BkS) : BkS := ⟨B.used + 1, if low48 v = 65535 then B.wh else updZ B.wh ((low48 v : Int) - 1) (some k)⟩
def noteS (p : PlanZ) (k v : Nat) (B : BkS) : Int × BkS := if v = 0 then (0, B) else if noteBad p k v B then (5, B) else (0, noteB k v B)
theorem low48_lt (v : Nat) : low48 v < 281474976710656 := by unfold low48; omega
section
variable {w : World} {q : BkA} {a : DevA} {p : PlanZ} {B : BkS} {m : Nat}
theorem note_zero (k : Nat) : Calls Tryz.prog 144 #[.pointer (some ⟨q.b, 0, none⟩), .int .i64 (k : Int), .int .u64 0] w fun e w' => e = .returned (.int .i64 0) ∧ w' = w := by
  go_enter Tryz.func144, Tryz.ntmps144
  go_wp2_with fail
  go_ret
  exact ⟨rfl, rfl⟩
end
end Go.Proofs.YtjbhallhmnahbaaGreat
