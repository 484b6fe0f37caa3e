/-
  SkAi: LnB, LnC, LnD, LnG, LnH, LnI.
-/
import Derived.Test.YtifekejcbhllpaaGreatSkAh
import Derived.Deep.MidRow
import Derived.Deep.QuietTactic
import Derived.BigQuiet
import Derived.Deep.RegionHeld3

set_option linter.unusedVariables false

/-
  Layer 4: PutWord, Put, Took.
-/
namespace Go.Proofs.YtifekejcbhllpaaGreat
open Go.RowKit

def pwE (D : DevS) (z k : Int) (v : Nat) : Int × DevS := if k < 0 ∨ 7 < k then (2, D) else if isLine D z = true then stos z.toNat k.toNat (fun _ => v) 1 0 D else (3, D)
set_option maxRecDepth 20000 in
set_option maxHeartbeats 1000000 in
theorem putword_any (a : DevA) (D : DevS) (z k : Int) (v c : Nat) (w : World) (h : DevIs w a D) (hb : Bd D c) (hc : c < 1000000000) (hv : v < 18446744073709551616) :
    Calls Tryz.prog 145 #[.pointer (some ⟨a.bd, 0, none⟩), .int .i64 z, .int .i64 k, .int .u64 (v : Int)] w fun e w' => e = .returned (.int .i64 (pwE D z k v).1) ∧ DevIs w' a (pwE D z k v).2 ∧ Bd (pwE D z k v).2 (c + 10) ∧ Gr a.all w w' := by
  have HD := Lib.hid (And.intro h hb)
  have HV := Lib.hid hv
  by_cases hk0 : k < 0
  · have HE := Lib.hid (show pwE D z k v = (2, D) by unfold pwE; rw [if_pos (.inl hk0)])
    have hd : decide (k < 0) = true := by simpa using hk0
    clear h hb hv hk0
    go_enter Tryz.func145, Tryz.ntmps145
    go_wp2_with fail
    go_ret
    rw [HE.out]
    exact ⟨rfl, HD.out.1, HD.out.2.mono (by omega), Gr.refl _ _⟩
  · have hd : decide (k < 0) = false := by simpa using hk0
    by_cases hk7 : 7 < k
    · have HE := Lib.hid (show pwE D z k v = (2, D) by unfold pwE; rw [if_pos (.inr hk7)])
      have hd2 : decide ((8 : Int) ≤ k) = true := by simp; omega
      clear h hb hv hk0 hk7
      go_enter Tryz.func145, Tryz.ntmps145
      go_wp2_with fail
      go_ret
      rw [HE.out]
      exact ⟨rfl, HD.out.1, HD.out.2.mono (by omega), Gr.refl _ _⟩
    · have hd2 : decide ((8 : Int) ≤ k) = false := by simp; omega
      have HH := Lib.hid (has_any a D z w h)
      cases hl : isLine D z with
      | false =>
        have HE := Lib.hid (show pwE D z k v = (3, D) by unfold pwE; rw [if_neg (by omega), hl]; rfl)
        rw [hl] at HH
        clear h hb hv hk0 hk7 hl
        go_enter Tryz.func145, Tryz.ntmps145
        go_wp2_with fail
        refine HH.out.mono ?_
        rintro e w' ⟨rfl, rfl⟩
        go_wp2_with fail
        go_ret
        rw [HE.out]
        exact ⟨rfl, HD.out.1, HD.out.2.mono (by omega), Gr.refl _ _⟩
      | true =>
        rw [hl] at HH
        have hz : 0 ≤ z ∧ z < D.n := by unfold isLine at hl; exact of_decide_eq_true hl
        obtain ⟨l, rfl⟩ := Int.eq_ofNat_of_zero_le hz.1
        obtain ⟨q, rfl⟩ := Int.eq_ofNat_of_zero_le (show 0 ≤ k by omega)
        have HE := Lib.hid (show pwE D (l : Int) (q : Int) v = stos l q (fun _ => v) 1 0 D by unfold pwE; rw [if_neg (by omega), if_pos hl, Int.toNat_natCast, Int.toNat_natCast])
        have hq8 : q < 8 := by omega
        have hl2 : l < 65536 := by have := h.ok.hi; omega
        have X := Holds.new w #[.int .u64 (v : Int)] 22
        have g1 := (Gr.refl [] w).alloc (Obj.cells #[.int .u64 (v : Int)] 22)
        have HS := Lib.hid (lstore_any a D l q 1 w.heap.size 0 1 c (fun _ => v) _ (h.gr0 g1) hb hc hl2 hq8 (by omega) (by omega) (by unfold maxLen; omega) (fun e => by have := h.lt _ e; omega) (fun i hi => by
          obtain rfl : i = 0 := by omega
          exact X.cell 0) (fun _ _ => hv) X.lt (by omega))
        have HG := Lib.hid g1
        clear h hb hv hk0 hk7 hl hz X g1
        go_enter Tryz.func145, Tryz.ntmps145
        go_wp2_with fail
        refine HH.out.mono ?_
        rintro e w' ⟨rfl, rfl⟩
        go_wp2_with fail
        refine HS.out.mono ?_
        rintro e w3 ⟨rfl, d3, b3, g3⟩
        have HN := Lib.hid (And.intro d3 (And.intro b3 (HG.out.of0.trans g3)))
        clear d3 b3 g3
        go_wp2_with fail
        go_ret
        rw [HE.out]
        exact ⟨rfl, HN.out.1, HN.out.2.1, HN.out.2.2⟩

/-! ### Put -/
theorem wdL_lt (l : List UInt8) (k : Nat) : wdL l k < 18446744073709551616 := by
  unfold wdL
  have h := getL_lt ((l.drop (8 * k)).take 8)
  have h2 : ((l.drop (8 * k)).take 8).length ≤ 8 := by simp; omega
  exact Nat.lt_of_lt_of_le h (by
    have : (256 : Nat) ^ ((l.drop (8 * k)).take 8).length ≤ 256 ^ 8 := Nat.pow_le_pow_right (by omega) h2
    exact Nat.le_trans this (by decide))
def wordsV (s : ByteArray) : Array Value := #[.int .u64 (wdL s.data.toList 0), .int .u64 (wdL s.data.toList 1), .int .u64 (wdL s.data.toList 2), .int .u64 (wdL s.data.toList 3), .int .u64 (wdL s.data.toList 4), .int .u64 (wdL s.data.toList 5), .int .u64 (wdL s.data.toList 6), .int .u64 (wdL s.data.toList 7)]
theorem wordsV_at (s : ByteArray) (i : Nat) (h : i < 8) : (wordsV s)[i]? = some (.int .u64 (wdL s.data.toList i : Int)) := by
  rcases (show i = 0 ∨ i = 1 ∨ i = 2 ∨ i = 3 ∨ i = 4 ∨ i = 5 ∨ i = 6 ∨ i = 7 by omega) with rfl | rfl | rfl | rfl | rfl | rfl | rfl | rfl <;> rfl
theorem words_ok (s : ByteArray) (w : World) (h : s.size = 64) : Calls Tryz.prog 110 #[.string s] w fun e w' => e = .returned (.tuple #[.agg (wordsV s), .int .i64 0]) ∧ Gr [] w w' :=
  (words_yes s w h).mono fun _ _ q => ⟨q.1, .ofBelow q.2⟩
def zeroV : Array Value := #[.int .u64 0, .int .u64 0, .int .u64 0, .int .u64 0, .int .u64 0, .int .u64 0, .int .u64 0, .int .u64 0]
theorem words_bad (s : ByteArray) (w : World) (hs : s.size ≤ maxLen) (h : s.size ≠ 64) : Calls Tryz.prog 110 #[.string s] w fun e w' => e = .returned (.tuple #[.agg zeroV, .int .i64 2]) ∧ Gr [] w w' :=
  (words_no s w hs h).mono fun _ _ q => ⟨q.1, .ofBelow q.2⟩
def putE (D : DevS) (z : Int) (s : ByteArray) : Int × DevS := if s.size ≠ 64 then (2, D) else if isLine D z = true then stos z.toNat 0 (wdL s.data.toList) 8 0 D else (3, D)
set_option maxRecDepth 20000 in
set_option maxHeartbeats 1000000 in
theorem lput_any (a : DevA) (D : DevS) (z : Int) (s : ByteArray) (c : Nat) (w : World) (h : DevIs w a D) (hb : Bd D c) (hc : c < 1000000000) (hs : s.size ≤ maxLen) :
    Calls Tryz.prog 83 #[.pointer (some ⟨a.bd, 0, none⟩), .int .i64 z, .string s] w fun e w' => e = .returned (.int .i64 (putE D z s).1) ∧ DevIs w' a (putE D z s).2 ∧ Bd (putE D z s).2 (c + 10) ∧ Gr a.all w w' := by
  have HD := Lib.hid (And.intro h hb)
  by_cases hsz : s.size = 64
  · have HH := Lib.hid (fun W (g : Gr [] w W) => has_any a D z W (h.gr0 g))
    cases hl : isLine D z with
    | false =>
      have HE := Lib.hid (show putE D z s = (3, D) by unfold putE; rw [if_neg (by simp [hsz]), hl]; rfl)
      have HW := Lib.hid (words_ok s w hsz)
      rw [hl] at HH
      clear h hb hs hsz hl
      go_enter Tryz.func83, Tryz.ntmps83
      go_wp2_with fail
      refine HW.out.mono ?_
      rintro e w1 ⟨rfl, g1⟩
      have HG := Lib.hid (g1.alloc (Obj.cells (wordsV s) 155))
      clear g1
      unfold wordsV at *
      go_wp2_with fail
      refine (HH.out _ HG.out).mono ?_
      rintro e w' ⟨rfl, rfl⟩
      go_wp2_with fail
      go_ret
      rw [HE.out]
      exact ⟨rfl, HD.out.1.gr0 HG.out, HD.out.2.mono (by omega), HG.out.of0⟩
    | true =>
      have hz : 0 ≤ z ∧ z < D.n := by unfold isLine at hl; exact of_decide_eq_true hl
      obtain ⟨l, rfl⟩ := Int.eq_ofNat_of_zero_le hz.1
      have HE := Lib.hid (show putE D (l : Int) s = stos l 0 (wdL s.data.toList) 8 0 D by unfold putE; rw [if_neg (by simp [hsz]), if_pos hl, Int.toNat_natCast])
      have HW := Lib.hid (words_ok s w hsz)
      have HL := Lib.hid (show l < 65536 by have := h.ok.hi; omega)
      rw [hl] at HH
      clear h hb hs hsz hl hz
      go_enter Tryz.func83, Tryz.ntmps83
      go_wp2_with fail
      refine HW.out.mono ?_
      rintro e w1 ⟨rfl, g1⟩
      have X := Holds.new w1 (wordsV s) 155
      have HG := Lib.hid (g1.alloc (Obj.cells (wordsV s) 155))
      have HS := Lib.hid (lstore_any a D l 0 8 w1.heap.size 0 8 c (wdL s.data.toList) _ (HD.out.1.gr0 HG.out) HD.out.2 hc HL.out (by omega) (by omega) (by omega) (by unfold maxLen; omega) (fun e => by have := HD.out.1.lt _ e; have := g1.size; omega) (fun i hi => by
        rw [Nat.zero_add, X.cell]
        exact wordsV_at s i hi) (fun _ _ => wdL_lt _ _) X.lt (by omega))
      clear g1 X
      unfold wordsV at *
      go_wp2_with fail
      refine (HH.out _ HG.out).mono ?_
      rintro e w' ⟨rfl, rfl⟩
      go_wp2_with fail
      refine HS.out.mono ?_
      rintro e w3 ⟨rfl, d3, b3, g3⟩
      have HN := Lib.hid (And.intro d3 (And.intro b3 (HG.out.of0.trans g3)))
      clear d3 b3 g3
      go_wp2_with fail
      go_ret
      rw [HE.out]
      exact ⟨rfl, HN.out.1, HN.out.2.1, HN.out.2.2⟩
  · have HE := Lib.hid (show putE D z s = (2, D) by unfold putE; rw [if_pos hsz])
    have HW := Lib.hid (words_bad s w hs hsz)
    clear h hb hs hsz
    go_enter Tryz.func83, Tryz.ntmps83
    go_wp2_with fail
    refine HW.out.mono ?_
    rintro e w1 ⟨rfl, g1⟩
    have HG := Lib.hid (g1.alloc (Obj.cells zeroV 155))
    clear g1
    unfold zeroV at *
    go_wp2_with fail
    go_ret
    rw [HE.out]
    exact ⟨rfl, HD.out.1.gr0 HG.out, HD.out.2.mono (by omega), HG.out.of0⟩

end Go.Proofs.YtifekejcbhllpaaGreat

/-
  Layer 4: Took, Get.
-/
namespace Go.Proofs.YtifekejcbhllpaaGreat
open Go.RowKit

def tookB (D : DevS) (z : Int) (s : ByteArray) : Bool := decide (s.size = 64) && (isLine D z && (List.range 8).all fun k => D.med (8 * z.toNat + k) == wdL s.data.toList k)
set_option maxRecDepth 20000 in
set_option maxHeartbeats 1000000 in
theorem took_any (a : DevA) (D : DevS) (z : Int) (s : ByteArray) (w : World) (h : DevIs w a D) (hs : s.size ≤ maxLen) :
    Calls Tryz.prog 87 #[.pointer (some ⟨a.bd, 0, none⟩), .int .i64 z, .string s] w fun e w' => e = .returned (.bool (tookB D z s)) ∧ Gr [] w w' := by
  have HD := Lib.hid h
  by_cases hsz : s.size = 64
  · have HW := Lib.hid (words_ok s w hsz)
    have HH := Lib.hid (fun W (g : Gr [] w W) => has_any a D z W (h.gr0 g))
    cases hl : isLine D z with
    | false =>
      have HE := Lib.hid (show tookB D z s = false by unfold tookB; rw [hl]; simp)
      rw [hl] at HH
      clear h hs hsz hl
      go_enter Tryz.func87, Tryz.ntmps87
      go_wp2_with fail
      refine HW.out.mono ?_
      rintro e w1 ⟨rfl, g1⟩
      have HG := Lib.hid (g1.alloc (Obj.cells (wordsV s) 155))
      clear g1
      unfold wordsV at *
      go_wp2_with fail
      refine (HH.out _ HG.out).mono ?_
      rintro e w' ⟨rfl, rfl⟩
      go_wp2_with fail
      go_ret
      rw [HE.out]
      exact ⟨rfl, HG.out⟩
    | true =>
      have hz : 0 ≤ z ∧ z < D.n := by unfold isLine at hl; exact of_decide_eq_true hl
      obtain ⟨l, rfl⟩ := Int.eq_ofNat_of_zero_le hz.1
      have HE := Lib.hid (show tookB D (l : Int) s = (List.range 8).all fun k => D.med (8 * l + k) == wdL s.data.toList k by unfold tookB; rw [hl, decide_eq_true hsz, Int.toNat_natCast]; simp)
      have hl2 : l < 8192 := by have := h.ok.hi; omega
      have HL := Lib.hid (show l < D.n by omega)
      rw [hl] at HH
      clear h hs hsz hl hz
      go_enter Tryz.func87, Tryz.ntmps87
      go_wp2_with fail
      refine HW.out.mono ?_
      rintro e w1 ⟨rfl, g1⟩
      have HG := Lib.hid (g1.alloc (Obj.cells (wordsV s) 155))
      have X := Holds.new w1 (wordsV s) 155
      clear g1
      unfold wordsV at *
      have HNS := Lib.hid (show ∀ k, k < 8 → [wdL s.data.toList 0, wdL s.data.toList 1, wdL s.data.toList 2, wdL s.data.toList 3, wdL s.data.toList 4, wdL s.data.toList 5, wdL s.data.toList 6, wdL s.data.toList 7][k]? = some (wdL s.data.toList k) from fun k hk => by
        rcases (show k = 0 ∨ k = 1 ∨ k = 2 ∨ k = 3 ∨ k = 4 ∨ k = 5 ∨ k = 6 ∨ k = 7 by omega) with rfl | rfl | rfl | rfl | rfl | rfl | rfl | rfl <;> rfl)
      generalize wdL s.data.toList 0 = n0 at *
      generalize wdL s.data.toList 1 = n1 at *
      generalize wdL s.data.toList 2 = n2 at *
      generalize wdL s.data.toList 3 = n3 at *
      generalize wdL s.data.toList 4 = n4 at *
      generalize wdL s.data.toList 5 = n5 at *
      generalize wdL s.data.toList 6 = n6 at *
      generalize wdL s.data.toList 7 = n7 at *
      obtain ⟨k0, k1, k2, k3, k4, k5, k6, k7⟩ := X.eight
      clear X
      go_wp2_with fail
      refine (HH.out _ HG.out).mono ?_
      rintro e w' ⟨rfl, rfl⟩
      go_wp2_with fail
      clear k0 k1 k2 k3 k4 k5 k6 k7
      generalize w1.alloc (Obj.cells #[.int .u64 (n0 : Int), .int .u64 (n1 : Int), .int .u64 (n2 : Int), .int .u64 (n3 : Int), .int .u64 (n4 : Int), .int .u64 (n5 : Int), .int .u64 (n6 : Int), .int .u64 (n7 : Int)] 155) = wa at *
      go_loopw [25] (fun z wr => ∃ k : Nat, k ≤ 8 ∧ z = .int .i64 (k : Int) ∧ (∀ j, j < k → D.med (8 * l + j) = wdL s.data.toList j) ∧ wa = wr) (fun z _ => 8 - (intOf z).toNat)
      case atStart => exact ⟨0, by omega, rfl, fun j hj => by omega, rfl⟩
      case round =>
        obtain ⟨k, hk, rfl, hall, rfl⟩ := hrel
        have HALL := Lib.hid hall
        clear hall
        by_cases hlt : k < 8
        · have hd : decide ((k : Int) < 8) = true := by simp; omega
          obtain ⟨N, hN⟩ : ∃ N, N = wdL s.data.toList k := ⟨_, rfl⟩
          have hix := index8 n0 n1 n2 n3 n4 n5 n6 n7 k N (by rw [hN]; exact HNS.out k hlt)
          obtain ⟨q, hq⟩ : ∃ q : Nat, q = 8 * l + k := ⟨_, rfl⟩
          have hq2 : (l : Int) * 8 + (k : Int) = (q : Int) := by omega
          have HM := Lib.hid (media_in a D q wa (HD.out.gr0 HG.out) (by have := HL.out; omega))
          obtain ⟨M, hM⟩ : ∃ M, D.med q = M := ⟨_, rfl⟩
          rw [hM] at HM
          by_cases he : M = N
          · have HA := Lib.hid (show ∀ j, j < k + 1 → D.med (8 * l + j) = wdL s.data.toList j from fun j hj => by
              by_cases c : j = k
              · subst c; rw [← hq, hM, he, hN]
              · exact HALL.out j (by omega))
            clear hN hq hM
            subst he
            go_wp2_with fail
            refine HM.out.mono ?_
            rintro e w' ⟨rfl, rfl⟩
            go_wp2_with fail
            go_roundw
            case rel => exact ⟨k + 1, by omega, by go_num, HA.out, by first | rfl | trivial⟩
            case measure => simp [intOf]; omega
          · have HA := Lib.hid (show ((List.range 8).all fun k => D.med (8 * l + k) == wdL s.data.toList k) = false by
              rw [List.all_eq_false]
              exact ⟨k, List.mem_range.2 hlt, by rw [← hq, hM, ← hN]; simpa using he⟩)
            have he2 : ((M : Int) == (N : Int)) = false := by simp; omega
            have he3 : ((M : Int) != (N : Int)) = true := by simp; omega
            clear hN hq hM he
            go_wp2_with fail
            refine HM.out.mono ?_
            rintro e w' ⟨rfl, rfl⟩
            go_wp2_with fail
            go_ret
            rw [HE.out, HA.out]
            exact ⟨rfl, HG.out⟩
        · obtain rfl : k = 8 := by omega
          have HA := Lib.hid (show ((List.range 8).all fun k => D.med (8 * l + k) == wdL s.data.toList k) = true by
            rw [List.all_eq_true]
            intro j hj
            rw [List.mem_range] at hj
            simpa using HALL.out j hj)
          rw [show ((8 : Nat) : Int) = 8 from rfl]
          go_wp2_with fail
          go_ret
          rw [HE.out, HA.out]
          exact ⟨rfl, HG.out⟩
  · have HW := Lib.hid (words_bad s w hs hsz)
    have HE := Lib.hid (show tookB D z s = false by unfold tookB; rw [decide_eq_false hsz]; rfl)
    clear h hs hsz
    go_enter Tryz.func87, Tryz.ntmps87
    go_wp2_with fail
    refine HW.out.mono ?_
    rintro e w1 ⟨rfl, g1⟩
    have HG := Lib.hid (g1.alloc (Obj.cells zeroV 155))
    clear g1
    unfold zeroV at *
    go_wp2_with fail
    go_ret
    rw [HE.out]
    exact ⟨rfl, HG.out⟩

/-! ### Get -/
theorem loadV_lt {D : DevS} (h : DevOk D) (i : Nat) : loadV D i < 18446744073709551616 := by
  unfold loadV
  cases hb : D.buf (i : Int) with
  | none => exact h.medB i
  | some p => exact h.bufB _ p hb
def getT (D : DevS) (l : Nat) : List UInt8 := catL [loadV D (8 * l), loadV D (8 * l + 1), loadV D (8 * l + 2), loadV D (8 * l + 3), loadV D (8 * l + 4), loadV D (8 * l + 5), loadV D (8 * l + 6), loadV D (8 * l + 7)]
set_option maxRecDepth 20000 in
theorem get_err (a : DevA) (D : DevS) (z : Int) (w : World) (h : DevIs w a D) (he : reachE D (isLine D z) ≠ 0) :
    Calls Tryz.prog 88 #[.pointer (some ⟨a.bd, 0, none⟩), .int .i64 z] w fun e w' => e = .returned (.tuple #[.string ⟨#[]⟩, .int .i64 (reachE D (isLine D z))]) ∧ w = w' := by
  have HH := Lib.hid (has_any a D z w h)
  cases hl : isLine D z with
  | false =>
    have q : decide ((0 : Int) ≤ -1 ∧ (-1 : Int) < 8 * D.n) = false := by simp
    have HL := Lib.hid (load_err a D (-1) w h (by rw [q]; rw [hl] at he; exact he))
    rw [q] at HL
    rw [hl] at HH he
    clear h hl q
    generalize reachE D false = ev at *
    have e2 : (ev == 0) = false := by simpa using he
    clear he
    go_enter Tryz.func88, Tryz.ntmps88
    go_wp2_with fail
    refine HH.out.mono ?_
    rintro e w' ⟨rfl, rfl⟩
    go_wp2_with fail
    refine HL.out.mono ?_
    rintro e w' ⟨rfl, rfl⟩
    go_wp2_with fail
    go_ret2
    exact ⟨rfl, rfl⟩
  | true =>
    have hz : 0 ≤ z ∧ z < D.n := by unfold isLine at hl; exact of_decide_eq_true hl
    have q : decide ((0 : Int) ≤ z * 8 ∧ z * 8 < 8 * D.n) = true := by simp; omega
    have HL := Lib.hid (load_err a D (z * 8) w h (by rw [q]; rw [hl] at he; exact he))
    rw [q] at HL
    rw [hl] at HH he
    have hn := h.ok.hi
    have hz0 := hz.1
    have hz1 : z < 8192 := by omega
    clear h hl q hz
    generalize reachE D true = ev at *
    have e2 : (ev == 0) = false := by simpa using he
    clear he
    go_enter Tryz.func88, Tryz.ntmps88
    go_wp2_with fail
    refine HH.out.mono ?_
    rintro e w' ⟨rfl, rfl⟩
    go_wp2_with fail
    refine HL.out.mono ?_
    rintro e w' ⟨rfl, rfl⟩
    go_wp2_with fail
    go_ret2
    exact ⟨rfl, rfl⟩
def getR (F : Nat → Nat) (k : Nat) : Array Value := rowOf (fun j => .int .u64 ((if j < k then F j else 0 : Nat) : Int)) 8
theorem getR_next (F : Nat → Nat) (k : Nat) : (getR F k).setIfInBounds k (.int .u64 (F k : Int)) = getR F (k + 1) := by
  unfold getR
  rw [rowOf_set]
  refine rowOf_congr fun j _ => ?_
  by_cases e : j = k
  · subst e; rw [if_pos rfl, if_pos (by omega)]
  · rw [if_neg e]
    by_cases c : j < k
    · rw [if_pos c, if_pos (by omega)]
    · rw [if_neg c, if_neg (by omega)]
theorem siz8u : (Tryz.prog.info? 155).map (·.size) = some 8 := by kernel_rfl
set_option maxRecDepth 20000 in
set_option maxHeartbeats 1000000 in
theorem get_yes (a : DevA) (D : DevS) (l : Nat) (w : World) (h : DevIs w a D) (hl : l < D.n) (ho : D.off = false) :
    Calls Tryz.prog 88 #[.pointer (some ⟨a.bd, 0, none⟩), .int .i64 (l : Int)] w fun e w' => e = .returned (.tuple #[.string ⟨(getT D l).toArray⟩, .int .i64 0]) ∧ Gr [] w w' := by
  have hl2 : l < 8192 := by have := h.ok.hi; omega
  have HH := Lib.hid (has_any a D (l : Int) w h)
  rw [show isLine D (l : Int) = true by unfold isLine; rw [decide_eq_true_eq]; omega] at HH
  obtain ⟨F, hF⟩ : ∃ F : Nat → Nat, ∀ k, F k = loadV D (8 * l + k) := ⟨fun k => loadV D (8 * l + k), fun _ => rfl⟩
  have HFB := Lib.hid (show ∀ k, F k < 18446744073709551616 from fun k => by rw [hF]; exact loadV_lt h.ok _)
  have HL := Lib.hid (show ∀ W, Gr [] w W → ∀ k : Nat, k < 8 → Calls Tryz.prog 121 #[.pointer (some ⟨a.bd, 0, none⟩), .int .i64 ((8 * l + k : Nat) : Int)] W fun e w' => e = .returned (.tuple #[.int .u64 (F k : Int), .int .i64 0]) ∧ Gr [] W w' from fun W g k hk => by rw [hF]; exact load_ok a D (8 * l + k) W (h.gr0 g) ho (by omega))
  have HT := Lib.hid (show getT D l = catL [F 0, F 1, F 2, F 3, F 4, F 5, F 6, F 7] by unfold getT; rw [hF, hF, hF, hF, hF, hF, hF, hF]; rfl)
  clear h hl ho hF
  go_enter Tryz.func88, Tryz.ntmps88
  go_wp2_with fail
  refine HH.out.mono ?_
  rintro e w' ⟨rfl, rfl⟩
  obtain ⟨B, hB⟩ : ∃ B : Nat, B = 8 * l := ⟨_, rfl⟩
  have hB2 : (l : Int) * 8 = (B : Int) := by omega
  have hB3 : B < 65536 := by omega
  rw [← hB] at HL
  clear hB
  go_wp2_with fail
  refine (HL.out _ (Gr.refl _ _) 0 (by omega)).mono ?_
  rintro e w1 ⟨rfl, g1⟩
  go_wp2_with fail
  have e0 : getR F 0 = #[Value.int .u64 0, Value.int .u64 0, Value.int .u64 0, Value.int .u64 0, Value.int .u64 0, Value.int .u64 0, Value.int .u64 0, Value.int .u64 0] := by kernel_rfl
  have HLT := Lib.hid (Holds.new w1 #[Value.int .u64 0, Value.int .u64 0, Value.int .u64 0, Value.int .u64 0, Value.int .u64 0, Value.int .u64 0, Value.int .u64 0, Value.int .u64 0] 155).lt
  have HX := Lib.hid (show Holds (w1.alloc (Obj.cells #[Value.int .u64 0, Value.int .u64 0, Value.int .u64 0, Value.int .u64 0, Value.int .u64 0, Value.int .u64 0, Value.int .u64 0, Value.int .u64 0] 155)) w1.heap.size (getR F 0) 155 ∧ Gr [] w (w1.alloc (Obj.cells #[Value.int .u64 0, Value.int .u64 0, Value.int .u64 0, Value.int .u64 0, Value.int .u64 0, Value.int .u64 0, Value.int .u64 0, Value.int .u64 0] 155)) by rw [← e0]; exact ⟨Holds.new w1 _ _, g1.alloc _⟩)
  have HS := Lib.hid g1.size
  clear g1 e0
  generalize w1.alloc (Obj.cells #[Value.int .u64 0, Value.int .u64 0, Value.int .u64 0, Value.int .u64 0, Value.int .u64 0, Value.int .u64 0, Value.int .u64 0, Value.int .u64 0] 155) = wa at *
  generalize w1.heap.size = b9 at *
  go_loopw [27] (fun z wr => ∃ k : Nat, k ≤ 8 ∧ z = .int .i64 (k : Int) ∧ Holds wr b9 (getR F k) 155 ∧ Gr [] w wr) (fun z _ => 8 - (intOf z).toNat)
  case atStart => exact ⟨0, by omega, rfl, HX.out.1, HX.out.2⟩
  case round =>
    clear HX
    obtain ⟨k, hk, rfl, X, g⟩ := hrel
    by_cases hlt : k < 8
    · have hd : decide ((k : Int) < 8) = true := by simp; omega
      have HLk := Lib.hid (HL.out wr g k hlt)
      obtain ⟨q, hq⟩ : ∃ q : Nat, q = B + k := ⟨_, rfl⟩
      have hq2 : (B : Int) + (k : Int) = (q : Int) := by omega
      rw [← hq] at HLk
      have HX := Lib.hid (And.intro X g)
      clear X g hq
      go_wp2_with fail
      refine HLk.out.mono ?_
      rintro e w3 ⟨rfl, g3⟩
      have X3 := HX.out.1.gr0 g3
      have c0 : w3.cell? ⟨b9, k, none⟩ = some (.int .u64 0) := by rw [X3.cell]; unfold getR; rw [rowOf_get _ _ _ hlt, if_neg (by omega)]; rfl
      have f0 : w3.frozen? ⟨b9, k, none⟩ = false := X3.frozen k
      have HN := Lib.hid (And.intro (show Holds (w3.setCell ⟨b9, k, none⟩ (.int .u64 (F k : Int))) b9 (getR F (k + 1)) 155 by rw [← getR_next]; exact X3.set k _) ((HX.out.2.trans g3).setCell (p := ⟨b9, k, none⟩) (.inr HS.out) (.int .u64 (F k : Int))))
      clear X3 g3 HLk
      generalize F k = v at *
      go_wp2_with fail
      go_roundw
      case rel => exact ⟨k + 1, by omega, by go_num, HN.out.1, HN.out.2⟩
      case measure => simp [intOf]; omega
    · obtain rfl : k = 8 := by omega
      have HR := Lib.hid (show wr.rangeAt b9 0 (getR F 8).toList from fun j v hv => by rw [Nat.zero_add, X.cell, ← Array.getElem?_toList]; exact hv)
      have e8 : getR F 8 = #[Value.int .u64 (F 0 : Int), Value.int .u64 (F 1 : Int), Value.int .u64 (F 2 : Int), Value.int .u64 (F 3 : Int), Value.int .u64 (F 4 : Int), Value.int .u64 (F 5 : Int), Value.int .u64 (F 6 : Int), Value.int .u64 (F 7 : Int)] := by kernel_rfl
      have HE8 := Lib.hid e8
      have HG := Lib.hid g
      have HTX := Lib.hid (text_any (F 0) (F 1) (F 2) (F 3) (F 4) (F 5) (F 6) (F 7) (fun n hn => by
        simp only [List.mem_cons, List.not_mem_nil, or_false] at hn
        rcases hn with rfl | rfl | rfl | rfl | rfl | rfl | rfl | rfl <;> exact HFB.out _) wr)
      clear X g e8
      rw [show ((8 : Nat) : Int) = 8 from rfl]
      go_wp2_with (refine wpList_load_mid rfl 155 _ rfl b9 0 rfl (getR F 8).toList _ HR.out Tryz.underlying155 rfl (by rw [show (getR F 8).toList.length = 8 by unfold getR rowOf; simp]; exact siz8u) ?_)
      rw [HE8.out]
      refine HTX.out.mono ?_
      rintro e w4 ⟨rfl, hb4⟩
      have HG4 := Lib.hid (HG.out.nextB hb4)
      clear hb4
      go_wp2_with fail
      go_ret2
      rw [HT.out]
      exact ⟨rfl, HG4.out⟩

end Go.Proofs.YtifekejcbhllpaaGreat

/-
  Layer 4: what a Put leaves on a device that is on, with no fuse, with nothing pending; wakes.
-/
namespace Go.Proofs.YtifekejcbhllpaaGreat
open Go.RowKit

structure Calm (D : DevS) : Prop where
  off : D.off = false
  fuse : D.fuse = 0
  buf : ∀ z, D.buf z = none
/-- i words from B on are stored. -/
structure Sto (D D' : DevS) (B i : Nat) (f : Nat → Nat) : Prop where
  n : D'.n = D.n
  off : D'.off = false
  fuse : D'.fuse = 0
  bad : D'.bad = D.bad
  med : D'.med = D.med
  cnt : D'.cnt = D.cnt + i
  buf : ∀ z : Int, D'.buf z = if (B : Int) ≤ z ∧ z < (B : Int) + i then some (f (z - B).toNat, false) else none
/-- m words from B on, in line l, last. -/
structure PutS (D D' : DevS) (l B m : Nat) (f : Nat → Nat) : Prop where
  n : D'.n = D.n
  calm : Calm D'
  bad : D'.bad = D.bad
  cnt : D'.cnt = D.cnt + m + 2
  med : ∀ x, D'.med x = if B ≤ x ∧ x < B + m ∧ D.bad l = false then f (x - B) else D.med x
theorem Sto.start {D : DevS} (h : Calm D) (B : Nat) (f : Nat → Nat) : Sto D D B 0 f :=
  ⟨rfl, h.off, h.fuse, rfl, rfl, rfl, fun z => by rw [if_neg (by omega)]; exact h.buf z⟩
theorem stos_live (D : DevS) (l k m : Nat) (f : Nat → Nat) (hl : l < D.n) (hk : k + m ≤ 8) : ∀ (r i : Nat) (D' : DevS), i + r = m → Sto D D' (8 * l + k) i f → ∃ E, stos l k f r i D' = (0, E) ∧ PutS D E l (8 * l + k) m f
  | 0, i, D', hi, h => by
    obtain rfl : i = m := by omega
    have h1 := live_e (D := D') (t := isLine D' (l : Int)) h.off h.fuse (by unfold isLine; rw [decide_eq_true_eq, h.n]; omega)
    obtain ⟨D2, hD2⟩ : ∃ D2, D2 = flushF (l : Int) D' := ⟨_, rfl⟩
    have o2 : D2.off = false := by rw [hD2]; exact h.off
    have u2 : D2.fuse = 0 := by rw [hD2]; exact h.fuse
    have h2 := live_e (D := D2) (t := true) o2 u2 rfl
    have b2 : ∀ z : Int, D2.buf z = if ((8 * l + k : Nat) : Int) ≤ z ∧ z < ((8 * l + k : Nat) : Int) + i then some (f (z - ((8 * l + k : Nat) : Int)).toNat, true) else none := fun z => by
      rw [hD2]
      show flF D'.buf ((l : Int).toNat) 8 z = _
      rw [Int.toNat_natCast]
      unfold flF
      rw [h.buf z]
      by_cases c : ((8 * l + k : Nat) : Int) ≤ z ∧ z < ((8 * l + k : Nat) : Int) + i
      · rw [if_pos c, if_pos c, if_pos (by omega)]; rfl
      · rw [if_neg c, if_neg c]; split <;> rfl
    have s2 : ∀ x : Nat, fluS D2 x = decide (8 * l + k ≤ x ∧ x < 8 * l + k + i) := fun x => by
      unfold fluS
      rw [b2]
      by_cases c : 8 * l + k ≤ x ∧ x < 8 * l + k + i
      · rw [if_pos (by omega), decide_eq_true c]; rfl
      · rw [if_neg (by omega), decide_eq_false c]; rfl
    refine ⟨fenceF D2, ?_, ?_⟩
    · unfold stos finS
      rw [h1.1, if_pos rfl, h1.2, ← hD2, h2.1, h2.2]
    · refine ⟨by rw [hD2]; exact h.n, ⟨o2, u2, fun z => ?_⟩, by rw [hD2]; exact h.bad, by rw [hD2]; show D'.cnt + 1 + 1 = _; rw [h.cnt], fun x => ?_⟩
      · show perBuf D2 (fluS D2) z = none
        unfold perBuf
        rw [s2, b2]
        by_cases c : ((8 * l + k : Nat) : Int) ≤ z ∧ z < ((8 * l + k : Nat) : Int) + i
        · rw [if_pos ⟨by omega, by rw [decide_eq_true_eq]; omega⟩]
        · rw [if_neg c]; split <;> rfl
      · show perMed D2 (fluS D2) x = _
        unfold perMed
        have hb : D2.bad = D.bad := by rw [hD2]; exact h.bad
        have hm : D2.med = D.med := by rw [hD2]; exact h.med
        rw [s2, b2, hb, hm]
        by_cases c : 8 * l + k ≤ x ∧ x < 8 * l + k + i
        · rw [decide_eq_true c, if_pos (show ((8 * l + k : Nat) : Int) ≤ (x : Int) ∧ (x : Int) < ((8 * l + k : Nat) : Int) + i by omega), show x / 8 = l by omega]
          cases hbl : D.bad l with
          | true => rw [if_neg (by simp), if_neg (by simp)]
          | false =>
            rw [if_pos ⟨rfl, rfl⟩, if_pos ⟨c.1, c.2, rfl⟩]
            show f ((x : Int) - ((8 * l + k : Nat) : Int)).toNat = _
            congr 1
            omega
        · rw [decide_eq_false c, if_neg (by simp), if_neg (fun e => c ⟨e.1, e.2.1⟩)]
  | r + 1, i, D', hi, h => by
    have h1 := live_e (D := D') (t := isWord D' ((8 * l + k + i : Nat) : Int)) h.off h.fuse (by unfold isWord; rw [decide_eq_true_eq, h.n]; omega)
    have hs : Sto D (storeF ((8 * l + k + i : Nat) : Int) (f i) D') (8 * l + k) (i + 1) f := by
      refine ⟨h.n, h.off, h.fuse, h.bad, h.med, by show D'.cnt + 1 = _; rw [h.cnt]; omega, fun z => ?_⟩
      show updZ D'.buf ((8 * l + k + i : Nat) : Int) (some (f i, false)) z = _
      unfold updZ
      by_cases e : z = ((8 * l + k + i : Nat) : Int)
      · subst e
        rw [if_pos rfl, if_pos (by omega)]
        congr 3
        omega
      · rw [if_neg e, h.buf z]
        by_cases c : ((8 * l + k : Nat) : Int) ≤ z ∧ z < ((8 * l + k : Nat) : Int) + i
        · rw [if_pos c, if_pos (by omega)]
        · rw [if_neg c, if_neg (by omega)]
    obtain ⟨E, e1, e2⟩ := stos_live D l k m f hl hk r (i + 1) _ (by omega) hs
    refine ⟨E, ?_, e2⟩
    unfold stos
    rw [h1.1, if_pos rfl, h1.2]
    exact e1
theorem put_calm {D : DevS} {l : Nat} {s : ByteArray} (h : Calm D) (hl : l < D.n) (hs : s.size = 64) : ∃ E, putE D (l : Int) s = (0, E) ∧ PutS D E l (8 * l) 8 (wdL s.data.toList) := by
  obtain ⟨E, e1, e2⟩ := stos_live D l 0 8 (wdL s.data.toList) hl (by omega) 8 0 D (by omega) (.start h _ _)
  refine ⟨E, ?_, e2⟩
  unfold putE
  rw [if_neg (by simp [hs]), if_pos (by unfold isLine; rw [decide_eq_true_eq]; omega), Int.toNat_natCast]
  exact e1
theorem putword_calm {D : DevS} {l k v : Nat} (h : Calm D) (hl : l < D.n) (hk : k < 8) : ∃ E, pwE D (l : Int) (k : Int) v = (0, E) ∧ PutS D E l (8 * l + k) 1 (fun _ => v) := by
  obtain ⟨E, e1, e2⟩ := stos_live D l k 1 (fun _ => v) hl (by omega) 1 0 D (by omega) (.start h _ _)
  refine ⟨E, ?_, e2⟩
  unfold pwE
  rw [if_neg (by omega), if_pos (by unfold isLine; rw [decide_eq_true_eq]; omega), Int.toNat_natCast, Int.toNat_natCast]
  exact e1
theorem calm_load {D : DevS} (h : Calm D) (i : Nat) : loadV D i = D.med i := by unfold loadV; rw [h.buf]
theorem took_of {D : DevS} {l : Nat} {s : ByteArray} (hl : l < D.n) (hs : s.size = 64) (hm : ∀ k, k < 8 → D.med (8 * l + k) = wdL s.data.toList k) : tookB D (l : Int) s = true := by
  unfold tookB
  rw [decide_eq_true hs, show isLine D (l : Int) = true by unfold isLine; rw [decide_eq_true_eq]; omega, Int.toNat_natCast, Bool.true_and, Bool.true_and, List.all_eq_true]
  intro k hk
  rw [List.mem_range] at hk
  simpa using hm k hk
/-! ### wakes -/
end Go.Proofs.YtifekejcbhllpaaGreat

/-
  Layer 4: Mixed, the reference's Mixed.
-/
namespace Go.Proofs.YtifekejcbhllpaaGreat
open Go.RowKit
set_option linter.unusedVariables false

def mixB (was is got : ByteArray) : Bool := decide (was.size = 64 ∧ is.size = 64 ∧ got.size = 64) && (List.range 8).all fun k => wdL got.data.toList k == wdL was.data.toList k || wdL got.data.toList k == wdL is.data.toList k
/-! ### The reference's -/
end Go.Proofs.YtifekejcbhllpaaGreat

/-
  LineMixes.
-/
namespace Go.Proofs.YtifekejcbhllpaaGreat
open Go.RowKit
set_option linter.unusedVariables false

/-- G's first words are A's or B's. -/
def MixTo (A B G : ByteArray) (k : Nat) : Prop := G.size = 8 * k ∧ ∀ j, j < k → wdL G.data.toList j = wdL A.data.toList j ∨ wdL G.data.toList j = wdL B.data.toList j
theorem MixTo.all {A B G : ByteArray} (hA : A.size = 64) (hB : B.size = 64) (h : MixTo A B G 8) : mixB A B G = true := by
  unfold mixB
  rw [decide_eq_true ⟨hA, hB, h.1⟩, Bool.true_and, List.all_eq_true]
  intro j hj
  rw [List.mem_range] at hj
  rcases h.2 j hj with q | q <;> simp [q]
end Go.Proofs.YtifekejcbhllpaaGreat

/-
  LineTorn: what is left where the power fails.
-/
namespace Go.Proofs.YtifekejcbhllpaaGreat
open Go.RowKit

theorem op_cases {D : DevS} {t : Bool} (ho : D.off = false) (ht : t = true) : (opE D t = 6 ∧ ∀ f, opD D t f = { D with fuse := 0, off := true }) ∨ (opE D t = 0 ∧ ∀ f, opD D t f = f (lit D)) := by
  have hr : reachE D t = 0 := by unfold reachE; rw [ho, ht]; rfl
  by_cases hf : D.fuse = 1
  · exact .inl ⟨opE_fuse hr hf, fun f => opD_fuse hr hf⟩
  · exact .inr ⟨opE_ok hr hf, fun f => opD_ok hr hf⟩
/-! ### The texts -/
theorem bytes_eq {x y : ByteArray} (hx : x.size = 64) (hy : y.size = 64) (h : ∀ k, k < 8 → wdL x.data.toList k = wdL y.data.toList k) : x = y := by
  apply ByteArray.ext
  apply Array.ext'
  have e1 := cat_wdL 8 x.data.toList hx
  have e2 := cat_wdL 8 y.data.toList hy
  rw [← e1, ← e2]
  congr 1
  apply List.map_congr_left
  intro k hk
  exact h k (by simpa using hk)
end Go.Proofs.YtifekejcbhllpaaGreat
