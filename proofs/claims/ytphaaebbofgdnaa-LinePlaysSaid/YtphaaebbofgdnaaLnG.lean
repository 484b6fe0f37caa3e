/-
  Layer 4: Mixed, the reference's Mixed.
-/
import Derived.Test.YtphaaebbofgdnaaLnD
import Derived.Deep.QuietTactic
import Derived.BigQuiet
namespace Go.Proofs.Ytphaaebbofgdnaa
open Go.RowKit

def mixB (was is got : ByteArray) : Bool := decide (was.size = 64 ∧ is.size = 64 ∧ got.size = 64) && (List.range 8).all fun k => wdL got.data.toList k == wdL was.data.toList k || wdL got.data.toList k == wdL is.data.toList k
theorem words_gen (s : ByteArray) (w : World) (hs : s.size ≤ maxLen) : Calls Try.prog 59 #[.string s] w fun e w' => ∃ (n0 n1 n2 n3 n4 n5 n6 n7 : Nat) (ev : Int), e = .returned (.tuple #[.agg #[.int .u64 (n0 : Int), .int .u64 (n1 : Int), .int .u64 (n2 : Int), .int .u64 (n3 : Int), .int .u64 (n4 : Int), .int .u64 (n5 : Int), .int .u64 (n6 : Int), .int .u64 (n7 : Int)], .int .i64 ev]) ∧
    ((ev = 0 ∧ s.size = 64 ∧ ∀ k, k < 8 → [n0, n1, n2, n3, n4, n5, n6, n7][k]? = some (wdL s.data.toList k)) ∨ (ev = 2 ∧ s.size ≠ 64)) ∧ Gr [] w w' := by
  by_cases h : s.size = 64
  · refine (words_yes s w h).mono ?_
    rintro e w' ⟨rfl, g⟩
    refine ⟨_, _, _, _, _, _, _, _, _, rfl, .inl ⟨rfl, h, fun k hk => ?_⟩, .ofBelow g⟩
    rcases (show k = 0 ∨ k = 1 ∨ k = 2 ∨ k = 3 ∨ k = 4 ∨ k = 5 ∨ k = 6 ∨ k = 7 by omega) with rfl | rfl | rfl | rfl | rfl | rfl | rfl | rfl <;> rfl
  · refine (words_no s w hs h).mono ?_
    rintro e w' ⟨rfl, g⟩
    exact ⟨0, 0, 0, 0, 0, 0, 0, 0, 2, rfl, .inr ⟨rfl, h⟩, .ofBelow g⟩
theorem arr8_at (n0 n1 n2 n3 n4 n5 n6 n7 k n : Nat) (h : [n0, n1, n2, n3, n4, n5, n6, n7][k]? = some n) : (#[Value.int .u64 (n0 : Int), Value.int .u64 (n1 : Int), Value.int .u64 (n2 : Int), Value.int .u64 (n3 : Int), Value.int .u64 (n4 : Int), Value.int .u64 (n5 : Int), Value.int .u64 (n6 : Int), Value.int .u64 (n7 : Int)] : Array Value)[k]? = some (.int .u64 (n : Int)) := by
  have hk : k < 8 := by have := (List.getElem?_eq_some_iff.1 h).1; simpa using this
  rcases (show k = 0 ∨ k = 1 ∨ k = 2 ∨ k = 3 ∨ k = 4 ∨ k = 5 ∨ k = 6 ∨ k = 7 by omega) with rfl | rfl | rfl | rfl | rfl | rfl | rfl | rfl <;> (simp at h; subst h; rfl)

set_option maxRecDepth 100000 in
set_option maxHeartbeats 4000000 in
theorem mixed_any (s t u : ByteArray) (w : World) (hs : s.size ≤ maxLen) (ht : t.size ≤ maxLen) (hu : u.size ≤ maxLen) :
    Calls Try.prog 41 #[.string s, .string t, .string u] w fun e w' => e = .returned (.bool (mixB s t u)) ∧ Gr [] w w' := by
  have HS := Lib.hid (fun W => words_gen s W hs)
  have HT := Lib.hid (fun W => words_gen t W ht)
  have HU := Lib.hid (fun W => words_gen u W hu)
  clear hs ht hu
  go_enter Try.func41, Try.ntmps41
  go_wp2_with fail
  refine (HS.out _).mono ?_
  rintro e w1 ⟨a0, a1, a2, a3, a4, a5, a6, a7, ea, rfl, ha, g1⟩
  have XA := Lib.hid (Holds.new w1 #[Value.int .u64 (a0 : Int), Value.int .u64 (a1 : Int), Value.int .u64 (a2 : Int), Value.int .u64 (a3 : Int), Value.int .u64 (a4 : Int), Value.int .u64 (a5 : Int), Value.int .u64 (a6 : Int), Value.int .u64 (a7 : Int)] 107)
  have GA := Lib.hid (g1.alloc (Obj.cells #[Value.int .u64 (a0 : Int), Value.int .u64 (a1 : Int), Value.int .u64 (a2 : Int), Value.int .u64 (a3 : Int), Value.int .u64 (a4 : Int), Value.int .u64 (a5 : Int), Value.int .u64 (a6 : Int), Value.int .u64 (a7 : Int)] 107))
  have HA := Lib.hid ha
  clear g1 ha
  go_wp2_with fail
  generalize w1.alloc (Obj.cells #[Value.int .u64 (a0 : Int), Value.int .u64 (a1 : Int), Value.int .u64 (a2 : Int), Value.int .u64 (a3 : Int), Value.int .u64 (a4 : Int), Value.int .u64 (a5 : Int), Value.int .u64 (a6 : Int), Value.int .u64 (a7 : Int)] 107) = wa at *
  generalize w1.heap.size = ba at *
  refine (HT.out _).mono ?_
  rintro e w2 ⟨b0, b1, b2, b3, b4, b5, b6, b7, eb, rfl, hb, g2⟩
  have XB := Lib.hid (Holds.new w2 #[Value.int .u64 (b0 : Int), Value.int .u64 (b1 : Int), Value.int .u64 (b2 : Int), Value.int .u64 (b3 : Int), Value.int .u64 (b4 : Int), Value.int .u64 (b5 : Int), Value.int .u64 (b6 : Int), Value.int .u64 (b7 : Int)] 107)
  have GB := Lib.hid (g2.alloc (Obj.cells #[Value.int .u64 (b0 : Int), Value.int .u64 (b1 : Int), Value.int .u64 (b2 : Int), Value.int .u64 (b3 : Int), Value.int .u64 (b4 : Int), Value.int .u64 (b5 : Int), Value.int .u64 (b6 : Int), Value.int .u64 (b7 : Int)] 107))
  have HB := Lib.hid hb
  clear g2 hb
  go_wp2_with fail
  generalize w2.alloc (Obj.cells #[Value.int .u64 (b0 : Int), Value.int .u64 (b1 : Int), Value.int .u64 (b2 : Int), Value.int .u64 (b3 : Int), Value.int .u64 (b4 : Int), Value.int .u64 (b5 : Int), Value.int .u64 (b6 : Int), Value.int .u64 (b7 : Int)] 107) = wb at *
  generalize w2.heap.size = bb at *
  refine (HU.out _).mono ?_
  rintro e w3 ⟨c0, c1, c2, c3, c4, c5, c6, c7, ec, rfl, hc, g3⟩
  have XC := Holds.new w3 #[Value.int .u64 (c0 : Int), Value.int .u64 (c1 : Int), Value.int .u64 (c2 : Int), Value.int .u64 (c3 : Int), Value.int .u64 (c4 : Int), Value.int .u64 (c5 : Int), Value.int .u64 (c6 : Int), Value.int .u64 (c7 : Int)] 107
  have GC := Lib.hid (g3.alloc (Obj.cells #[Value.int .u64 (c0 : Int), Value.int .u64 (c1 : Int), Value.int .u64 (c2 : Int), Value.int .u64 (c3 : Int), Value.int .u64 (c4 : Int), Value.int .u64 (c5 : Int), Value.int .u64 (c6 : Int), Value.int .u64 (c7 : Int)] 107))
  obtain ⟨k0, k1, k2, k3, k4, k5, k6, k7⟩ := XC.eight
  have HCC := Lib.hid hc
  clear g3 hc XC
  have HG := Lib.hid ((GA.out.trans GB.out).trans GC.out)
  rcases HA.out with ⟨rfl, sa, la⟩ | ⟨rfl, sa⟩
  · have HLA := Lib.hid (And.intro sa la)
    clear sa la HA
    rcases HB.out with ⟨rfl, sb, lb⟩ | ⟨rfl, sb⟩
    · have HLB := Lib.hid (And.intro sb lb)
      clear sb lb HB
      rcases HCC.out with ⟨rfl, sc, lc⟩ | ⟨rfl, sc⟩
      · have HLC := Lib.hid (And.intro sc lc)
        have HE := Lib.hid (show mixB s t u = (List.range 8).all fun k => wdL u.data.toList k == wdL s.data.toList k || wdL u.data.toList k == wdL t.data.toList k by unfold mixB; rw [decide_eq_true ⟨HLA.out.1, HLB.out.1, sc⟩, Bool.true_and])
        clear sc lc HCC
        go_wp2_with fail
        clear k0 k1 k2 k3 k4 k5 k6 k7
        have XA3 := Lib.hid ((XA.out.gr0 GB.out).gr0 GC.out)
        have XB3 := Lib.hid (XB.out.gr0 GC.out)
        generalize w3.alloc (Obj.cells #[Value.int .u64 (c0 : Int), Value.int .u64 (c1 : Int), Value.int .u64 (c2 : Int), Value.int .u64 (c3 : Int), Value.int .u64 (c4 : Int), Value.int .u64 (c5 : Int), Value.int .u64 (c6 : Int), Value.int .u64 (c7 : Int)] 107) = wc at *
        go_loopw [41] (fun z wr => ∃ k : Nat, k ≤ 8 ∧ z = .int .i64 (k : Int) ∧ (∀ j, j < k → (wdL u.data.toList j == wdL s.data.toList j || wdL u.data.toList j == wdL t.data.toList j) = true) ∧ wc = wr) (fun z _ => 8 - (intOf z).toNat)
        case atStart => exact ⟨0, by omega, rfl, fun j hj => by omega, rfl⟩
        case round =>
          obtain ⟨k, hk, rfl, hall, rfl⟩ := hrel
          have HALL := Lib.hid hall
          clear hall
          by_cases hlt : k < 8
          · have hd : decide ((k : Int) < 8) = true := by simp; omega
            obtain ⟨G, hG⟩ : ∃ G, wdL u.data.toList k = G := ⟨_, rfl⟩
            obtain ⟨A, hA⟩ : ∃ A, wdL s.data.toList k = A := ⟨_, rfl⟩
            obtain ⟨B, hB⟩ : ∃ B, wdL t.data.toList k = B := ⟨_, rfl⟩
            have hix := index8 c0 c1 c2 c3 c4 c5 c6 c7 k G (by rw [← hG]; exact HLC.out.2 k hlt)
            have e1 : wc.cell? ⟨ba, k, none⟩ = some (.int .u64 (A : Int)) := by rw [XA3.out.cell]; exact arr8_at a0 a1 a2 a3 a4 a5 a6 a7 k A (by rw [← hA]; exact HLA.out.2 k hlt)
            have e2 : wc.cell? ⟨bb, k, none⟩ = some (.int .u64 (B : Int)) := by rw [XB3.out.cell]; exact arr8_at b0 b1 b2 b3 b4 b5 b6 b7 k B (by rw [← hB]; exact HLB.out.2 k hlt)
            have hk0 : (0 : Int) ≤ (k : Int) := by omega
            have hk8 : (k : Int) < 8 := by omega
            by_cases hGA : G = A
            · have HN := Lib.hid (show ∀ j, j < k + 1 → (wdL u.data.toList j == wdL s.data.toList j || wdL u.data.toList j == wdL t.data.toList j) = true from fun j hj => by
                by_cases c : j = k
                · subst c; rw [hG, hA, hGA]; simp
                · exact HALL.out j (by omega))
              clear hG hA hB
              subst hGA
              go_wp2_with fail
              go_roundw
              case rel => exact ⟨k + 1, by omega, by go_num, HN.out, by first | rfl | trivial⟩
              case measure => simp [intOf]; omega
            · have d1 : ((G : Int) != (A : Int)) = true := by simp; omega
              have d2 : ((G : Int) == (A : Int)) = false := by simp; omega
              by_cases hGB : G = B
              · have HN := Lib.hid (show ∀ j, j < k + 1 → (wdL u.data.toList j == wdL s.data.toList j || wdL u.data.toList j == wdL t.data.toList j) = true from fun j hj => by
                  by_cases c : j = k
                  · subst c; rw [hG, hB, hGB]; simp
                  · exact HALL.out j (by omega))
                clear hG hA hB hGA
                subst hGB
                go_wp2_with fail
                go_roundw
                case rel => exact ⟨k + 1, by omega, by go_num, HN.out, by first | rfl | trivial⟩
                case measure => simp [intOf]; omega
              · have d3 : ((G : Int) != (B : Int)) = true := by simp; omega
                have d4 : ((G : Int) == (B : Int)) = false := by simp; omega
                have HN := Lib.hid (show ((List.range 8).all fun k => wdL u.data.toList k == wdL s.data.toList k || wdL u.data.toList k == wdL t.data.toList k) = false by
                  rw [List.all_eq_false]
                  exact ⟨k, List.mem_range.2 hlt, by rw [hG, hA, hB]; simp [hGA, hGB]⟩)
                clear hG hA hB hGA hGB
                go_wp2_with fail
                go_ret
                rw [HE.out, HN.out]
                exact ⟨rfl, HG.out⟩
          · obtain rfl : k = 8 := by omega
            have HN := Lib.hid (show ((List.range 8).all fun k => wdL u.data.toList k == wdL s.data.toList k || wdL u.data.toList k == wdL t.data.toList k) = true by
              rw [List.all_eq_true]
              intro j hj
              rw [List.mem_range] at hj
              exact HALL.out j hj)
            rw [show ((8 : Nat) : Int) = 8 from rfl]
            go_wp2_with fail
            go_ret
            rw [HE.out, HN.out]
            exact ⟨rfl, HG.out⟩
      · have HE := Lib.hid (show mixB s t u = false by unfold mixB; rw [decide_eq_false (fun q => sc q.2.2)]; rfl)
        clear sc HCC
        go_wp2_with fail
        go_ret
        rw [HE.out]
        exact ⟨rfl, HG.out⟩
    · have HE := Lib.hid (show mixB s t u = false by unfold mixB; rw [decide_eq_false (fun q => sb q.2.1)]; rfl)
      clear sb HB
      go_wp2_with fail
      go_ret
      rw [HE.out]
      exact ⟨rfl, HG.out⟩
  · have HE := Lib.hid (show mixB s t u = false by unfold mixB; rw [decide_eq_false (fun q => sa q.1)]; rfl)
    clear sa HA
    go_wp2_with fail
    go_ret
    rw [HE.out]
    exact ⟨rfl, HG.out⟩

/-! ### The reference's -/
theorem ext8 (s : ByteArray) (q : Nat) : (s.extract q (q + 8)).data.toList = (s.data.toList.drop q).take 8 := by
  simp only [ByteArray.data_extract, Array.toList_extract, List.extract_eq_take_drop]
  rw [show q + 8 - q = 8 by omega]
theorem getL_inj8 {l m : List UInt8} (hl : l.length = 8) (hm : m.length = 8) (h : getL l = getL m) : l = m := by
  rw [← putL_getL l, ← putL_getL m, h, hl, hm]
theorem eq8 {s t : ByteArray} (hs : s.size = 64) (ht : t.size = 64) {j : Nat} (hj : j < 8) : s.extract (8 * j) (8 * j + 8) = t.extract (8 * j) (8 * j + 8) ↔ wdL s.data.toList j = wdL t.data.toList j := by
  constructor
  · intro h
    unfold wdL
    rw [← ext8, ← ext8, h]
  · intro h
    apply ByteArray.ext
    apply Array.ext'
    have e1 := ext8 s (8 * j)
    have e2 := ext8 t (8 * j)
    show (s.extract (8 * j) (8 * j + 8)).data.toList = (t.extract (8 * j) (8 * j + 8)).data.toList
    rw [e1, e2]
    have ls : s.data.toList.length = 64 := hs
    have lt : t.data.toList.length = 64 := ht
    exact getL_inj8 (by simp; omega) (by simp; omega) h

theorem bs_beq_false {x y : ByteArray} (h : x ≠ y) : (x.toList == y.toList) = false := by
  rw [beq_eq_false_iff_ne]
  intro e
  apply h
  apply ByteArray.ext
  apply Array.ext'
  rw [ByteArray.toList_eq, ByteArray.toList_eq] at e
  exact e
theorem bs_beq_true {x y : ByteArray} (h : x = y) : (x.toList == y.toList) = true := by rw [h]; exact beq_self_eq_true _

set_option maxRecDepth 100000 in
set_option maxHeartbeats 4000000 in
theorem rmixed_any (s t u : ByteArray) (w : World) (hs : s.size ≤ maxLen) (ht : t.size ≤ maxLen) (hu : u.size ≤ maxLen) :
    Calls Try.prog 42 #[.string s, .string t, .string u] w fun e w' => e = .returned (.bool (mixB s t u)) ∧ Gr [] w w' := by
  unfold maxLen at hs ht hu
  by_cases h : s.size = 64 ∧ t.size = 64 ∧ u.size = 64
  · obtain ⟨h1, h2, h3⟩ := h
    have HE := Lib.hid (show mixB s t u = (List.range 8).all fun k => wdL u.data.toList k == wdL s.data.toList k || wdL u.data.toList k == wdL t.data.toList k by unfold mixB; rw [decide_eq_true ⟨h1, h2, h3⟩, Bool.true_and])
    have HQ := Lib.hid (show ∀ j, j < 8 → (u.extract (8 * j) (8 * j + 8) = s.extract (8 * j) (8 * j + 8) ↔ wdL u.data.toList j = wdL s.data.toList j) ∧ (u.extract (8 * j) (8 * j + 8) = t.extract (8 * j) (8 * j + 8) ↔ wdL u.data.toList j = wdL t.data.toList j) from fun j hj => ⟨eq8 h3 h1 hj, eq8 h3 h2 hj⟩)
    go_enter Try.func42, Try.ntmps42
    go_wp2_with fail
    go_loopw [7] (fun z wr => ∃ j q : Nat, j ≤ 8 ∧ q = 8 * j ∧ z = .int .i64 (q : Int) ∧ (∀ i, i < j → (wdL u.data.toList i == wdL s.data.toList i || wdL u.data.toList i == wdL t.data.toList i) = true) ∧ Gr [] w wr) (fun z _ => 64 - (intOf z).toNat)
    case atStart => exact ⟨0, 0, by omega, rfl, rfl, fun i hi => by omega, Gr.refl _ _⟩
    case round =>
      obtain ⟨j, q, hj, hq, rfl, hall, g⟩ := hrel
      have HALL := Lib.hid (And.intro hall g)
      clear hall g
      by_cases hlt : j < 8
      · have hd : decide ((q : Int) < 64) = true := by simp; omega
        have hq8 : q + 8 ≤ 64 := by omega
        have hq0 : (0 : Int) ≤ (q : Int) := by omega
        have hqi : (q : Int) + 8 ≤ 64 := by omega
        have hqe := HQ.out j hlt
        rw [← hq] at hqe
        have d64 : decide (8 * (j : Int) < 64) = true := by simp; omega
        have hw : IntKind.i64.wrap ((q : Int) + 8) = (q : Int) + 8 := IntWalk.i64_in _ (by omega)
        have hq1 : (q : Int) ≤ (q : Int) + 8 := by omega
        have hn8 : ((q : Int) + 8).toNat = q + 8 := by omega
        by_cases hGA : u.extract q (q + 8) = s.extract q (q + 8)
        · have HN := Lib.hid (show ∀ i, i < j + 1 → (wdL u.data.toList i == wdL s.data.toList i || wdL u.data.toList i == wdL t.data.toList i) = true from fun i hi => by
            by_cases c : i = j
            · subst c; rw [hqe.1.1 hGA]; simp
            · exact HALL.out.1 i (by omega))
          have b1 := bs_beq_true hGA
          have HQ8 := Lib.hid hq
          clear hqe hGA hq
          go_wp2_with fail
          go_quiet (fail)
          go_wp2_with fail
          go_roundw
          case rel => exact ⟨j + 1, q + 8, by omega, by have := HQ8.out; omega, by go_num, HN.out, HALL.out.2.drewN _⟩
          case measure => simp [intOf]; omega
        · have b1 := bs_beq_false hGA
          by_cases hGB : u.extract q (q + 8) = t.extract q (q + 8)
          · have HN := Lib.hid (show ∀ i, i < j + 1 → (wdL u.data.toList i == wdL s.data.toList i || wdL u.data.toList i == wdL t.data.toList i) = true from fun i hi => by
              by_cases c : i = j
              · subst c; rw [hqe.2.1 hGB]; simp
              · exact HALL.out.1 i (by omega))
            have b2 := bs_beq_true hGB
            have HQ8 := Lib.hid hq
            clear hqe hGA hGB hq
            go_wp2_with fail
            go_quiet (fail)
            go_wp2_with fail
            go_roundw
            case rel => exact ⟨j + 1, q + 8, by omega, by have := HQ8.out; omega, by go_num, HN.out, HALL.out.2.drewN _⟩
            case measure => simp [intOf]; omega
          · have b2 := bs_beq_false hGB
            have HN := Lib.hid (show ((List.range 8).all fun k => wdL u.data.toList k == wdL s.data.toList k || wdL u.data.toList k == wdL t.data.toList k) = false by
              rw [List.all_eq_false]
              refine ⟨j, List.mem_range.2 hlt, ?_⟩
              have n1 : ¬ wdL u.data.toList j = wdL s.data.toList j := fun e => hGA (hqe.1.2 e)
              have n2 : ¬ wdL u.data.toList j = wdL t.data.toList j := fun e => hGB (hqe.2.2 e)
              simp [n1, n2])
            clear hqe hGA hGB hq
            go_wp2_with fail
            go_quiet (fail)
            go_wp2_with fail
            go_ret
            rw [HE.out, HN.out]
            exact ⟨rfl, HALL.out.2.drewN _⟩
      · obtain rfl : j = 8 := by omega
        have HN := Lib.hid (show ((List.range 8).all fun k => wdL u.data.toList k == wdL s.data.toList k || wdL u.data.toList k == wdL t.data.toList k) = true by
          rw [List.all_eq_true]
          intro j hj
          rw [List.mem_range] at hj
          exact HALL.out.1 j hj)
        obtain rfl : q = 64 := by omega
        rw [show ((64 : Nat) : Int) = 64 from rfl]
        go_wp2_with fail
        go_ret
        rw [HE.out, HN.out]
        exact ⟨rfl, HALL.out.2⟩
  · have HE := Lib.hid (show mixB s t u = false by unfold mixB; rw [decide_eq_false h]; rfl)
    by_cases h1 : s.size = 64
    · by_cases h2 : t.size = 64
      · have d3 : ((u.size : Int) != 64) = true := by have : u.size ≠ 64 := fun e => h ⟨h1, h2, e⟩; simp; omega
        have d4 : ((u.size : Int) == 64) = false := by have : u.size ≠ 64 := fun e => h ⟨h1, h2, e⟩; simp; omega
        clear h
        go_enter Try.func42, Try.ntmps42
        go_wp2_with fail
        go_ret
        rw [HE.out]
        exact ⟨rfl, Gr.refl _ _⟩
      · have d3 : ((t.size : Int) != 64) = true := by simp; omega
        have d4 : ((t.size : Int) == 64) = false := by simp; omega
        clear h h2
        go_enter Try.func42, Try.ntmps42
        go_wp2_with fail
        go_ret
        rw [HE.out]
        exact ⟨rfl, Gr.refl _ _⟩
    · have d3 : ((s.size : Int) != 64) = true := by simp; omega
      have d4 : ((s.size : Int) == 64) = false := by simp; omega
      clear h h1
      go_enter Try.func42, Try.ntmps42
      go_wp2_with fail
      go_ret
      rw [HE.out]
      exact ⟨rfl, Gr.refl _ _⟩

end Go.Proofs.Ytphaaebbofgdnaa
