/-
  HkAj: LnB, LnC, SpC, CrcPure.
-/
import Derived.Test.YtefmbchebobceaaGreatHkAi
import Derived.Test.YtefmbchebobceaaGreatHkAa
import Derived.Test.YtefmbchebobceaaGreatHkAb
import Derived.Deep.MidRow
import Derived.WalkKit

set_option linter.unusedVariables false

/-
  Layer 4: PutWord, Put, Took.
-/
namespace Go.Proofs.YtefmbchebobceaaGreat
open Go.RowKit

def pwE (D : DevS) (z k : Int) (v : Nat) : Int × DevS := if k < 0 ∨ 7 < k then (2, D) else if isLine D z = true then stos z.toNat k.toNat (fun _ => v) 1 0 D else (3, D)
set_option maxRecDepth 20000 in
set_option maxHeartbeats 1000000 in
theorem putword_any (a : DevA) (D : DevS) (z k : Int) (v c : Nat) (w : World) (h : DevIs w a D) (hb : Bd D c) (hc : c < 1000000000) (hv : v < 18446744073709551616) :
    Calls Tryz.prog 192 #[.pointer (some ⟨a.bd, 0, none⟩), .int .i64 z, .int .i64 k, .int .u64 (v : Int)] w fun e w' => e = .returned (.int .i64 (pwE D z k v).1) ∧ DevIs w' a (pwE D z k v).2 ∧ Bd (pwE D z k v).2 (c + 10) ∧ Gr a.all w w' := by
  have HD := Lib.hid (And.intro h hb)
  have HV := Lib.hid hv
  by_cases hk0 : k < 0
  · have HE := Lib.hid (show pwE D z k v = (2, D) by unfold pwE; rw [if_pos (.inl hk0)])
    have hd : decide (k < 0) = true := by simpa using hk0
    clear h hb hv hk0
    go_enter Tryz.func192, Tryz.ntmps192
    go_wp2_with fail
    go_ret
    rw [HE.out]
    exact ⟨rfl, HD.out.1, HD.out.2.mono (by omega), Gr.refl _ _⟩
  · have hd : decide (k < 0) = false := by simpa using hk0
    by_cases hk7 : 7 < k
    · have HE := Lib.hid (show pwE D z k v = (2, D) by unfold pwE; rw [if_pos (.inr hk7)])
      have hd2 : decide ((8 : Int) ≤ k) = true := by simp; omega
      clear h hb hv hk0 hk7
      go_enter Tryz.func192, Tryz.ntmps192
      go_wp2_with fail
      go_ret
      rw [HE.out]
      exact ⟨rfl, HD.out.1, HD.out.2.mono (by omega), Gr.refl _ _⟩
    · have hd2 : decide ((8 : Int) ≤ k) = false := by simp; omega
      have HH := Lib.hid (has_any a D z w h)
      cases hl : isLine D z with
      | false =>
        have HE := Lib.hid (show pwE D z k v = (3, D) by unfold pwE; rw [if_neg (by omega), hl]; rfl)
        rw [hl] at HH
        clear h hb hv hk0 hk7 hl
        go_enter Tryz.func192, Tryz.ntmps192
        go_wp2_with fail
        refine HH.out.mono ?_
        rintro e w' ⟨rfl, rfl⟩
        go_wp2_with fail
        go_ret
        rw [HE.out]
        exact ⟨rfl, HD.out.1, HD.out.2.mono (by omega), Gr.refl _ _⟩
      | true =>
        rw [hl] at HH
        have hz : 0 ≤ z ∧ z < D.n := by unfold isLine at hl; exact of_decide_eq_true hl
        obtain ⟨l, rfl⟩ := Int.eq_ofNat_of_zero_le hz.1
        obtain ⟨q, rfl⟩ := Int.eq_ofNat_of_zero_le (show 0 ≤ k by omega)
        have HE := Lib.hid (show pwE D (l : Int) (q : Int) v = stos l q (fun _ => v) 1 0 D by unfold pwE; rw [if_neg (by omega), if_pos hl, Int.toNat_natCast, Int.toNat_natCast])
        have hq8 : q < 8 := by omega
        have hl2 : l < 65536 := by have := h.ok.hi; omega
        have X := Holds.new w #[.int .u64 (v : Int)] 22
        have g1 := (Gr.refl [] w).alloc (Obj.cells #[.int .u64 (v : Int)] 22)
        have HS := Lib.hid (lstore_any a D l q 1 w.heap.size 0 1 c (fun _ => v) _ (h.gr0 g1) hb hc hl2 hq8 (by omega) (by omega) (by unfold maxLen; omega) (fun e => by have := h.lt _ e; omega) (fun i hi => by
          obtain rfl : i = 0 := by omega
          exact X.cell 0) (fun _ _ => hv) X.lt (by omega))
        have HG := Lib.hid g1
        clear h hb hv hk0 hk7 hl hz X g1
        go_enter Tryz.func192, Tryz.ntmps192
        go_wp2_with fail
        refine HH.out.mono ?_
        rintro e w' ⟨rfl, rfl⟩
        go_wp2_with fail
        refine HS.out.mono ?_
        rintro e w3 ⟨rfl, d3, b3, g3⟩
        have HN := Lib.hid (And.intro d3 (And.intro b3 (HG.out.of0.trans g3)))
        clear d3 b3 g3
        go_wp2_with fail
        go_ret
        rw [HE.out]
        exact ⟨rfl, HN.out.1, HN.out.2.1, HN.out.2.2⟩

/-! ### Put -/
theorem wdL_lt (l : List UInt8) (k : Nat) : wdL l k < 18446744073709551616 := by
  unfold wdL
  have h := getL_lt ((l.drop (8 * k)).take 8)
  have h2 : ((l.drop (8 * k)).take 8).length ≤ 8 := by simp; omega
  exact Nat.lt_of_lt_of_le h (by
    have : (256 : Nat) ^ ((l.drop (8 * k)).take 8).length ≤ 256 ^ 8 := Nat.pow_le_pow_right (by omega) h2
    exact Nat.le_trans this (by decide))
def wordsV (s : ByteArray) : Array Value := #[.int .u64 (wdL s.data.toList 0), .int .u64 (wdL s.data.toList 1), .int .u64 (wdL s.data.toList 2), .int .u64 (wdL s.data.toList 3), .int .u64 (wdL s.data.toList 4), .int .u64 (wdL s.data.toList 5), .int .u64 (wdL s.data.toList 6), .int .u64 (wdL s.data.toList 7)]
theorem wordsV_at (s : ByteArray) (i : Nat) (h : i < 8) : (wordsV s)[i]? = some (.int .u64 (wdL s.data.toList i : Int)) := by
  rcases (show i = 0 ∨ i = 1 ∨ i = 2 ∨ i = 3 ∨ i = 4 ∨ i = 5 ∨ i = 6 ∨ i = 7 by omega) with rfl | rfl | rfl | rfl | rfl | rfl | rfl | rfl <;> rfl
theorem words_ok (s : ByteArray) (w : World) (h : s.size = 64) : Calls Tryz.prog 82 #[.string s] w fun e w' => e = .returned (.tuple #[.agg (wordsV s), .int .i64 0]) ∧ Gr [] w w' :=
  (words_yes s w h).mono fun _ _ q => ⟨q.1, .ofBelow q.2⟩
def zeroV : Array Value := #[.int .u64 0, .int .u64 0, .int .u64 0, .int .u64 0, .int .u64 0, .int .u64 0, .int .u64 0, .int .u64 0]
theorem words_bad (s : ByteArray) (w : World) (hs : s.size ≤ maxLen) (h : s.size ≠ 64) : Calls Tryz.prog 82 #[.string s] w fun e w' => e = .returned (.tuple #[.agg zeroV, .int .i64 2]) ∧ Gr [] w w' :=
  (words_no s w hs h).mono fun _ _ q => ⟨q.1, .ofBelow q.2⟩
def putE (D : DevS) (z : Int) (s : ByteArray) : Int × DevS := if s.size ≠ 64 then (2, D) else if isLine D z = true then stos z.toNat 0 (wdL s.data.toList) 8 0 D else (3, D)
set_option maxRecDepth 20000 in
set_option maxHeartbeats 1000000 in
theorem lput_any (a : DevA) (D : DevS) (z : Int) (s : ByteArray) (c : Nat) (w : World) (h : DevIs w a D) (hb : Bd D c) (hc : c < 1000000000) (hs : s.size ≤ maxLen) :
    Calls Tryz.prog 89 #[.pointer (some ⟨a.bd, 0, none⟩), .int .i64 z, .string s] w fun e w' => e = .returned (.int .i64 (putE D z s).1) ∧ DevIs w' a (putE D z s).2 ∧ Bd (putE D z s).2 (c + 10) ∧ Gr a.all w w' := by
  have HD := Lib.hid (And.intro h hb)
  by_cases hsz : s.size = 64
  · have HH := Lib.hid (fun W (g : Gr [] w W) => has_any a D z W (h.gr0 g))
    cases hl : isLine D z with
    | false =>
      have HE := Lib.hid (show putE D z s = (3, D) by unfold putE; rw [if_neg (by simp [hsz]), hl]; rfl)
      have HW := Lib.hid (words_ok s w hsz)
      rw [hl] at HH
      clear h hb hs hsz hl
      go_enter Tryz.func89, Tryz.ntmps89
      go_wp2_with fail
      refine HW.out.mono ?_
      rintro e w1 ⟨rfl, g1⟩
      have HG := Lib.hid (g1.alloc (Obj.cells (wordsV s) 148))
      clear g1
      unfold wordsV at *
      go_wp2_with fail
      refine (HH.out _ HG.out).mono ?_
      rintro e w' ⟨rfl, rfl⟩
      go_wp2_with fail
      go_ret
      rw [HE.out]
      exact ⟨rfl, HD.out.1.gr0 HG.out, HD.out.2.mono (by omega), HG.out.of0⟩
    | true =>
      have hz : 0 ≤ z ∧ z < D.n := by unfold isLine at hl; exact of_decide_eq_true hl
      obtain ⟨l, rfl⟩ := Int.eq_ofNat_of_zero_le hz.1
      have HE := Lib.hid (show putE D (l : Int) s = stos l 0 (wdL s.data.toList) 8 0 D by unfold putE; rw [if_neg (by simp [hsz]), if_pos hl, Int.toNat_natCast])
      have HW := Lib.hid (words_ok s w hsz)
      have HL := Lib.hid (show l < 65536 by have := h.ok.hi; omega)
      rw [hl] at HH
      clear h hb hs hsz hl hz
      go_enter Tryz.func89, Tryz.ntmps89
      go_wp2_with fail
      refine HW.out.mono ?_
      rintro e w1 ⟨rfl, g1⟩
      have X := Holds.new w1 (wordsV s) 148
      have HG := Lib.hid (g1.alloc (Obj.cells (wordsV s) 148))
      have HS := Lib.hid (lstore_any a D l 0 8 w1.heap.size 0 8 c (wdL s.data.toList) _ (HD.out.1.gr0 HG.out) HD.out.2 hc HL.out (by omega) (by omega) (by omega) (by unfold maxLen; omega) (fun e => by have := HD.out.1.lt _ e; have := g1.size; omega) (fun i hi => by
        rw [Nat.zero_add, X.cell]
        exact wordsV_at s i hi) (fun _ _ => wdL_lt _ _) X.lt (by omega))
      clear g1 X
      unfold wordsV at *
      go_wp2_with fail
      refine (HH.out _ HG.out).mono ?_
      rintro e w' ⟨rfl, rfl⟩
      go_wp2_with fail
      refine HS.out.mono ?_
      rintro e w3 ⟨rfl, d3, b3, g3⟩
      have HN := Lib.hid (And.intro d3 (And.intro b3 (HG.out.of0.trans g3)))
      clear d3 b3 g3
      go_wp2_with fail
      go_ret
      rw [HE.out]
      exact ⟨rfl, HN.out.1, HN.out.2.1, HN.out.2.2⟩
  · have HE := Lib.hid (show putE D z s = (2, D) by unfold putE; rw [if_pos hsz])
    have HW := Lib.hid (words_bad s w hs hsz)
    clear h hb hs hsz
    go_enter Tryz.func89, Tryz.ntmps89
    go_wp2_with fail
    refine HW.out.mono ?_
    rintro e w1 ⟨rfl, g1⟩
    have HG := Lib.hid (g1.alloc (Obj.cells zeroV 148))
    clear g1
    unfold zeroV at *
    go_wp2_with fail
    go_ret
    rw [HE.out]
    exact ⟨rfl, HD.out.1.gr0 HG.out, HD.out.2.mono (by omega), HG.out.of0⟩

end Go.Proofs.YtefmbchebobceaaGreat

/-
  Layer 4: Took, Get.
-/
namespace Go.Proofs.YtefmbchebobceaaGreat
open Go.RowKit

def tookB (D : DevS) (z : Int) (s : ByteArray) : Bool := decide (s.size = 64) && (isLine D z && (List.range 8).all fun k => D.med (8 * z.toNat + k) == wdL s.data.toList k)
set_option maxRecDepth 20000 in
set_option maxHeartbeats 1000000 in
theorem took_any (a : DevA) (D : DevS) (z : Int) (s : ByteArray) (w : World) (h : DevIs w a D) (hs : s.size ≤ maxLen) :
    Calls Tryz.prog 52 #[.pointer (some ⟨a.bd, 0, none⟩), .int .i64 z, .string s] w fun e w' => e = .returned (.bool (tookB D z s)) ∧ Gr [] w w' := by
  have HD := Lib.hid h
  by_cases hsz : s.size = 64
  · have HW := Lib.hid (words_ok s w hsz)
    have HH := Lib.hid (fun W (g : Gr [] w W) => has_any a D z W (h.gr0 g))
    cases hl : isLine D z with
    | false =>
      have HE := Lib.hid (show tookB D z s = false by unfold tookB; rw [hl]; simp)
      rw [hl] at HH
      clear h hs hsz hl
      go_enter Tryz.func52, Tryz.ntmps52
      go_wp2_with fail
      refine HW.out.mono ?_
      rintro e w1 ⟨rfl, g1⟩
      have HG := Lib.hid (g1.alloc (Obj.cells (wordsV s) 148))
      clear g1
      unfold wordsV at *
      go_wp2_with fail
      refine (HH.out _ HG.out).mono ?_
      rintro e w' ⟨rfl, rfl⟩
      go_wp2_with fail
      go_ret
      rw [HE.out]
      exact ⟨rfl, HG.out⟩
    | true =>
      have hz : 0 ≤ z ∧ z < D.n := by unfold isLine at hl; exact of_decide_eq_true hl
      obtain ⟨l, rfl⟩ := Int.eq_ofNat_of_zero_le hz.1
      have HE := Lib.hid (show tookB D (l : Int) s = (List.range 8).all fun k => D.med (8 * l + k) == wdL s.data.toList k by unfold tookB; rw [hl, decide_eq_true hsz, Int.toNat_natCast]; simp)
      have hl2 : l < 8192 := by have := h.ok.hi; omega
      have HL := Lib.hid (show l < D.n by omega)
      rw [hl] at HH
      clear h hs hsz hl hz
      go_enter Tryz.func52, Tryz.ntmps52
      go_wp2_with fail
      refine HW.out.mono ?_
      rintro e w1 ⟨rfl, g1⟩
      have HG := Lib.hid (g1.alloc (Obj.cells (wordsV s) 148))
      have X := Holds.new w1 (wordsV s) 148
      clear g1
      unfold wordsV at *
      have HNS := Lib.hid (show ∀ k, k < 8 → [wdL s.data.toList 0, wdL s.data.toList 1, wdL s.data.toList 2, wdL s.data.toList 3, wdL s.data.toList 4, wdL s.data.toList 5, wdL s.data.toList 6, wdL s.data.toList 7][k]? = some (wdL s.data.toList k) from fun k hk => by
        rcases (show k = 0 ∨ k = 1 ∨ k = 2 ∨ k = 3 ∨ k = 4 ∨ k = 5 ∨ k = 6 ∨ k = 7 by omega) with rfl | rfl | rfl | rfl | rfl | rfl | rfl | rfl <;> rfl)
      generalize wdL s.data.toList 0 = n0 at *
      generalize wdL s.data.toList 1 = n1 at *
      generalize wdL s.data.toList 2 = n2 at *
      generalize wdL s.data.toList 3 = n3 at *
      generalize wdL s.data.toList 4 = n4 at *
      generalize wdL s.data.toList 5 = n5 at *
      generalize wdL s.data.toList 6 = n6 at *
      generalize wdL s.data.toList 7 = n7 at *
      obtain ⟨k0, k1, k2, k3, k4, k5, k6, k7⟩ := X.eight
      clear X
      go_wp2_with fail
      refine (HH.out _ HG.out).mono ?_
      rintro e w' ⟨rfl, rfl⟩
      go_wp2_with fail
      clear k0 k1 k2 k3 k4 k5 k6 k7
      generalize w1.alloc (Obj.cells #[.int .u64 (n0 : Int), .int .u64 (n1 : Int), .int .u64 (n2 : Int), .int .u64 (n3 : Int), .int .u64 (n4 : Int), .int .u64 (n5 : Int), .int .u64 (n6 : Int), .int .u64 (n7 : Int)] 148) = wa at *
      go_loopw [25] (fun z wr => ∃ k : Nat, k ≤ 8 ∧ z = .int .i64 (k : Int) ∧ (∀ j, j < k → D.med (8 * l + j) = wdL s.data.toList j) ∧ wa = wr) (fun z _ => 8 - (intOf z).toNat)
      case atStart => exact ⟨0, by omega, rfl, fun j hj => by omega, rfl⟩
      case round =>
        obtain ⟨k, hk, rfl, hall, rfl⟩ := hrel
        have HALL := Lib.hid hall
        clear hall
        by_cases hlt : k < 8
        · have hd : decide ((k : Int) < 8) = true := by simp; omega
          obtain ⟨N, hN⟩ : ∃ N, N = wdL s.data.toList k := ⟨_, rfl⟩
          have hix := index8 n0 n1 n2 n3 n4 n5 n6 n7 k N (by rw [hN]; exact HNS.out k hlt)
          obtain ⟨q, hq⟩ : ∃ q : Nat, q = 8 * l + k := ⟨_, rfl⟩
          have hq2 : (l : Int) * 8 + (k : Int) = (q : Int) := by omega
          have HM := Lib.hid (media_in a D q wa (HD.out.gr0 HG.out) (by have := HL.out; omega))
          obtain ⟨M, hM⟩ : ∃ M, D.med q = M := ⟨_, rfl⟩
          rw [hM] at HM
          by_cases he : M = N
          · have HA := Lib.hid (show ∀ j, j < k + 1 → D.med (8 * l + j) = wdL s.data.toList j from fun j hj => by
              by_cases c : j = k
              · subst c; rw [← hq, hM, he, hN]
              · exact HALL.out j (by omega))
            clear hN hq hM
            subst he
            go_wp2_with fail
            refine HM.out.mono ?_
            rintro e w' ⟨rfl, rfl⟩
            go_wp2_with fail
            go_roundw
            case rel => exact ⟨k + 1, by omega, by go_num, HA.out, by first | rfl | trivial⟩
            case measure => simp [intOf]; omega
          · have HA := Lib.hid (show ((List.range 8).all fun k => D.med (8 * l + k) == wdL s.data.toList k) = false by
              rw [List.all_eq_false]
              exact ⟨k, List.mem_range.2 hlt, by rw [← hq, hM, ← hN]; simpa using he⟩)
            have he2 : ((M : Int) == (N : Int)) = false := by simp; omega
            have he3 : ((M : Int) != (N : Int)) = true := by simp; omega
            clear hN hq hM he
            go_wp2_with fail
            refine HM.out.mono ?_
            rintro e w' ⟨rfl, rfl⟩
            go_wp2_with fail
            go_ret
            rw [HE.out, HA.out]
            exact ⟨rfl, HG.out⟩
        · obtain rfl : k = 8 := by omega
          have HA := Lib.hid (show ((List.range 8).all fun k => D.med (8 * l + k) == wdL s.data.toList k) = true by
            rw [List.all_eq_true]
            intro j hj
            rw [List.mem_range] at hj
            simpa using HALL.out j hj)
          rw [show ((8 : Nat) : Int) = 8 from rfl]
          go_wp2_with fail
          go_ret
          rw [HE.out, HA.out]
          exact ⟨rfl, HG.out⟩
  · have HW := Lib.hid (words_bad s w hs hsz)
    have HE := Lib.hid (show tookB D z s = false by unfold tookB; rw [decide_eq_false hsz]; rfl)
    clear h hs hsz
    go_enter Tryz.func52, Tryz.ntmps52
    go_wp2_with fail
    refine HW.out.mono ?_
    rintro e w1 ⟨rfl, g1⟩
    have HG := Lib.hid (g1.alloc (Obj.cells zeroV 148))
    clear g1
    unfold zeroV at *
    go_wp2_with fail
    go_ret
    rw [HE.out]
    exact ⟨rfl, HG.out⟩

/-! ### Get -/
theorem loadV_lt {D : DevS} (h : DevOk D) (i : Nat) : loadV D i < 18446744073709551616 := by
  unfold loadV
  cases hb : D.buf (i : Int) with
  | none => exact h.medB i
  | some p => exact h.bufB _ p hb
def getT (D : DevS) (l : Nat) : List UInt8 := catL [loadV D (8 * l), loadV D (8 * l + 1), loadV D (8 * l + 2), loadV D (8 * l + 3), loadV D (8 * l + 4), loadV D (8 * l + 5), loadV D (8 * l + 6), loadV D (8 * l + 7)]
set_option maxRecDepth 20000 in
theorem get_err (a : DevA) (D : DevS) (z : Int) (w : World) (h : DevIs w a D) (he : reachE D (isLine D z) ≠ 0) :
    Calls Tryz.prog 93 #[.pointer (some ⟨a.bd, 0, none⟩), .int .i64 z] w fun e w' => e = .returned (.tuple #[.string ⟨#[]⟩, .int .i64 (reachE D (isLine D z))]) ∧ w = w' := by
  have HH := Lib.hid (has_any a D z w h)
  cases hl : isLine D z with
  | false =>
    have q : decide ((0 : Int) ≤ -1 ∧ (-1 : Int) < 8 * D.n) = false := by simp
    have HL := Lib.hid (load_err a D (-1) w h (by rw [q]; rw [hl] at he; exact he))
    rw [q] at HL
    rw [hl] at HH he
    clear h hl q
    generalize reachE D false = ev at *
    have e2 : (ev == 0) = false := by simpa using he
    clear he
    go_enter Tryz.func93, Tryz.ntmps93
    go_wp2_with fail
    refine HH.out.mono ?_
    rintro e w' ⟨rfl, rfl⟩
    go_wp2_with fail
    refine HL.out.mono ?_
    rintro e w' ⟨rfl, rfl⟩
    go_wp2_with fail
    go_ret2
    exact ⟨rfl, rfl⟩
  | true =>
    have hz : 0 ≤ z ∧ z < D.n := by unfold isLine at hl; exact of_decide_eq_true hl
    have q : decide ((0 : Int) ≤ z * 8 ∧ z * 8 < 8 * D.n) = true := by simp; omega
    have HL := Lib.hid (load_err a D (z * 8) w h (by rw [q]; rw [hl] at he; exact he))
    rw [q] at HL
    rw [hl] at HH he
    have hn := h.ok.hi
    have hz0 := hz.1
    have hz1 : z < 8192 := by omega
    clear h hl q hz
    generalize reachE D true = ev at *
    have e2 : (ev == 0) = false := by simpa using he
    clear he
    go_enter Tryz.func93, Tryz.ntmps93
    go_wp2_with fail
    refine HH.out.mono ?_
    rintro e w' ⟨rfl, rfl⟩
    go_wp2_with fail
    refine HL.out.mono ?_
    rintro e w' ⟨rfl, rfl⟩
    go_wp2_with fail
    go_ret2
    exact ⟨rfl, rfl⟩
def getR (F : Nat → Nat) (k : Nat) : Array Value := rowOf (fun j => .int .u64 ((if j < k then F j else 0 : Nat) : Int)) 8
theorem getR_next (F : Nat → Nat) (k : Nat) : (getR F k).setIfInBounds k (.int .u64 (F k : Int)) = getR F (k + 1) := by
  unfold getR
  rw [rowOf_set]
  refine rowOf_congr fun j _ => ?_
  by_cases e : j = k
  · subst e; rw [if_pos rfl, if_pos (by omega)]
  · rw [if_neg e]
    by_cases c : j < k
    · rw [if_pos c, if_pos (by omega)]
    · rw [if_neg c, if_neg (by omega)]
theorem siz8u : (Tryz.prog.info? 148).map (·.size) = some 8 := by kernel_rfl
set_option maxRecDepth 20000 in
set_option maxHeartbeats 1000000 in
theorem get_yes (a : DevA) (D : DevS) (l : Nat) (w : World) (h : DevIs w a D) (hl : l < D.n) (ho : D.off = false) :
    Calls Tryz.prog 93 #[.pointer (some ⟨a.bd, 0, none⟩), .int .i64 (l : Int)] w fun e w' => e = .returned (.tuple #[.string ⟨(getT D l).toArray⟩, .int .i64 0]) ∧ Gr [] w w' := by
  have hl2 : l < 8192 := by have := h.ok.hi; omega
  have HH := Lib.hid (has_any a D (l : Int) w h)
  rw [show isLine D (l : Int) = true by unfold isLine; rw [decide_eq_true_eq]; omega] at HH
  obtain ⟨F, hF⟩ : ∃ F : Nat → Nat, ∀ k, F k = loadV D (8 * l + k) := ⟨fun k => loadV D (8 * l + k), fun _ => rfl⟩
  have HFB := Lib.hid (show ∀ k, F k < 18446744073709551616 from fun k => by rw [hF]; exact loadV_lt h.ok _)
  have HL := Lib.hid (show ∀ W, Gr [] w W → ∀ k : Nat, k < 8 → Calls Tryz.prog 145 #[.pointer (some ⟨a.bd, 0, none⟩), .int .i64 ((8 * l + k : Nat) : Int)] W fun e w' => e = .returned (.tuple #[.int .u64 (F k : Int), .int .i64 0]) ∧ Gr [] W w' from fun W g k hk => by rw [hF]; exact load_ok a D (8 * l + k) W (h.gr0 g) ho (by omega))
  have HT := Lib.hid (show getT D l = catL [F 0, F 1, F 2, F 3, F 4, F 5, F 6, F 7] by unfold getT; rw [hF, hF, hF, hF, hF, hF, hF, hF]; rfl)
  clear h hl ho hF
  go_enter Tryz.func93, Tryz.ntmps93
  go_wp2_with fail
  refine HH.out.mono ?_
  rintro e w' ⟨rfl, rfl⟩
  obtain ⟨B, hB⟩ : ∃ B : Nat, B = 8 * l := ⟨_, rfl⟩
  have hB2 : (l : Int) * 8 = (B : Int) := by omega
  have hB3 : B < 65536 := by omega
  rw [← hB] at HL
  clear hB
  go_wp2_with fail
  refine (HL.out _ (Gr.refl _ _) 0 (by omega)).mono ?_
  rintro e w1 ⟨rfl, g1⟩
  go_wp2_with fail
  have e0 : getR F 0 = #[Value.int .u64 0, Value.int .u64 0, Value.int .u64 0, Value.int .u64 0, Value.int .u64 0, Value.int .u64 0, Value.int .u64 0, Value.int .u64 0] := by kernel_rfl
  have HLT := Lib.hid (Holds.new w1 #[Value.int .u64 0, Value.int .u64 0, Value.int .u64 0, Value.int .u64 0, Value.int .u64 0, Value.int .u64 0, Value.int .u64 0, Value.int .u64 0] 148).lt
  have HX := Lib.hid (show Holds (w1.alloc (Obj.cells #[Value.int .u64 0, Value.int .u64 0, Value.int .u64 0, Value.int .u64 0, Value.int .u64 0, Value.int .u64 0, Value.int .u64 0, Value.int .u64 0] 148)) w1.heap.size (getR F 0) 148 ∧ Gr [] w (w1.alloc (Obj.cells #[Value.int .u64 0, Value.int .u64 0, Value.int .u64 0, Value.int .u64 0, Value.int .u64 0, Value.int .u64 0, Value.int .u64 0, Value.int .u64 0] 148)) by rw [← e0]; exact ⟨Holds.new w1 _ _, g1.alloc _⟩)
  have HS := Lib.hid g1.size
  clear g1 e0
  generalize w1.alloc (Obj.cells #[Value.int .u64 0, Value.int .u64 0, Value.int .u64 0, Value.int .u64 0, Value.int .u64 0, Value.int .u64 0, Value.int .u64 0, Value.int .u64 0] 148) = wa at *
  generalize w1.heap.size = b9 at *
  go_loopw [27] (fun z wr => ∃ k : Nat, k ≤ 8 ∧ z = .int .i64 (k : Int) ∧ Holds wr b9 (getR F k) 148 ∧ Gr [] w wr) (fun z _ => 8 - (intOf z).toNat)
  case atStart => exact ⟨0, by omega, rfl, HX.out.1, HX.out.2⟩
  case round =>
    clear HX
    obtain ⟨k, hk, rfl, X, g⟩ := hrel
    by_cases hlt : k < 8
    · have hd : decide ((k : Int) < 8) = true := by simp; omega
      have HLk := Lib.hid (HL.out wr g k hlt)
      obtain ⟨q, hq⟩ : ∃ q : Nat, q = B + k := ⟨_, rfl⟩
      have hq2 : (B : Int) + (k : Int) = (q : Int) := by omega
      rw [← hq] at HLk
      have HX := Lib.hid (And.intro X g)
      clear X g hq
      go_wp2_with fail
      refine HLk.out.mono ?_
      rintro e w3 ⟨rfl, g3⟩
      have X3 := HX.out.1.gr0 g3
      have c0 : w3.cell? ⟨b9, k, none⟩ = some (.int .u64 0) := by rw [X3.cell]; unfold getR; rw [rowOf_get _ _ _ hlt, if_neg (by omega)]; rfl
      have f0 : w3.frozen? ⟨b9, k, none⟩ = false := X3.frozen k
      have HN := Lib.hid (And.intro (show Holds (w3.setCell ⟨b9, k, none⟩ (.int .u64 (F k : Int))) b9 (getR F (k + 1)) 148 by rw [← getR_next]; exact X3.set k _) ((HX.out.2.trans g3).setCell (p := ⟨b9, k, none⟩) (.inr HS.out) (.int .u64 (F k : Int))))
      clear X3 g3 HLk
      generalize F k = v at *
      go_wp2_with fail
      go_roundw
      case rel => exact ⟨k + 1, by omega, by go_num, HN.out.1, HN.out.2⟩
      case measure => simp [intOf]; omega
    · obtain rfl : k = 8 := by omega
      have HR := Lib.hid (show wr.rangeAt b9 0 (getR F 8).toList from fun j v hv => by rw [Nat.zero_add, X.cell, ← Array.getElem?_toList]; exact hv)
      have e8 : getR F 8 = #[Value.int .u64 (F 0 : Int), Value.int .u64 (F 1 : Int), Value.int .u64 (F 2 : Int), Value.int .u64 (F 3 : Int), Value.int .u64 (F 4 : Int), Value.int .u64 (F 5 : Int), Value.int .u64 (F 6 : Int), Value.int .u64 (F 7 : Int)] := by kernel_rfl
      have HE8 := Lib.hid e8
      have HG := Lib.hid g
      have HTX := Lib.hid (text_any (F 0) (F 1) (F 2) (F 3) (F 4) (F 5) (F 6) (F 7) (fun n hn => by
        simp only [List.mem_cons, List.not_mem_nil, or_false] at hn
        rcases hn with rfl | rfl | rfl | rfl | rfl | rfl | rfl | rfl <;> exact HFB.out _) wr)
      clear X g e8
      rw [show ((8 : Nat) : Int) = 8 from rfl]
      go_wp2_with (refine wpList_load_mid rfl 148 _ rfl b9 0 rfl (getR F 8).toList _ HR.out Tryz.underlying148 rfl (by rw [show (getR F 8).toList.length = 8 by unfold getR rowOf; simp]; exact siz8u) ?_)
      rw [HE8.out]
      refine HTX.out.mono ?_
      rintro e w4 ⟨rfl, hb4⟩
      have HG4 := Lib.hid (HG.out.nextB hb4)
      clear hb4
      go_wp2_with fail
      go_ret2
      rw [HT.out]
      exact ⟨rfl, HG4.out⟩

end Go.Proofs.YtefmbchebobceaaGreat

/-
  Layer 5: a bank in memory; Lines, Left, Where, Read.
-/
namespace Go.Proofs.YtefmbchebobceaaGreat
open Go.RowKit

structure BkS where
  used : Nat
  wh : Int → Option Nat
structure BkA where
  b : Nat
  bm : Nat
def BkA.all (q : BkA) : List Nat := [q.b, q.bm]
structure BkIs (w : World) (q : BkA) (a : DevA) (p : PlanZ) (B : BkS) (m : Nat) : Prop where
  head : Holds w q.b #[.pointer (some ⟨a.bd, 0, none⟩), .int .i64 p.a, .int .i64 p.l, .int .i64 p.s, .int .i64 (B.used : Int), .map (some q.bm)] 262
  map : MapZ niE 3 w q.bm m B.wh
  ok : okZ p = true
  us : (B.used : Int) ≤ p.s
  rg : ∀ x k, B.wh x = some k → ((k : Nat) : Int) < p.s
  ne : q.b ≠ q.bm
  sep : ∀ b ∈ q.all, b ∉ a.all
section
variable {w w' : World} {q : BkA} {a : DevA} {p : PlanZ} {B : BkS} {m : Nat}
theorem BkIs.gr {bs : List Nat} (h : BkIs w q a p B m) (g : Gr bs w w') (hn : ∀ b ∈ q.all, b ∉ bs) : BkIs w' q a p B m :=
  ⟨h.head.gr g (hn _ (by simp [BkA.all])), h.map.gr g (hn _ (by simp [BkA.all])), h.ok, h.us, h.rg, h.ne, h.sep⟩
theorem BkIs.gr0 (h : BkIs w q a p B m) (g : Gr [] w w') : BkIs w' q a p B m := h.gr g (by simp)
theorem BkIs.grD (h : BkIs w q a p B m) (g : Gr a.all w w') : BkIs w' q a p B m := h.gr g h.sep
theorem BkIs.lt (h : BkIs w q a p B m) : ∀ b ∈ q.all, b < w.heap.size := by
  intro b hb
  simp only [BkA.all, List.mem_cons, List.not_mem_nil, or_false] at hb
  rcases hb with rfl | rfl
  · exact h.head.lt
  · exact h.map.lt
theorem BkIs.c0 (h : BkIs w q a p B m) : w.cell? ⟨q.b, 0, none⟩ = some (.pointer (some ⟨a.bd, 0, none⟩)) := h.head.cell 0
theorem BkIs.c1 (h : BkIs w q a p B m) : w.cell? ⟨q.b, 1, none⟩ = some (.int .i64 p.a) := h.head.cell 1
theorem BkIs.c2 (h : BkIs w q a p B m) : w.cell? ⟨q.b, 2, none⟩ = some (.int .i64 p.l) := h.head.cell 2
theorem BkIs.c3 (h : BkIs w q a p B m) : w.cell? ⟨q.b, 3, none⟩ = some (.int .i64 p.s) := h.head.cell 3
theorem BkIs.c4 (h : BkIs w q a p B m) : w.cell? ⟨q.b, 4, none⟩ = some (.int .i64 (B.used : Int)) := h.head.cell 4
theorem BkIs.c5 (h : BkIs w q a p B m) : w.cell? ⟨q.b, 5, none⟩ = some (.map (some q.bm)) := h.head.cell 5
end
def lineP (p : PlanZ) (i : Int) : Int := p.a + tabZ p + i
def spareP (p : PlanZ) (k : Int) : Int := p.a + tabZ p + p.l + k
def placeP (p : PlanZ) (B : BkS) (i : Int) : Int := match B.wh i with | some k => spareP p k | none => lineP p i
def inP (p : PlanZ) (i : Int) : Prop := 0 ≤ i ∧ i < p.l
instance (p : PlanZ) (i : Int) : Decidable (inP p i) := by unfold inP; infer_instance
section
variable {w : World} {q : BkA} {a : DevA} {p : PlanZ} {B : BkS} {m : Nat}
theorem left_at (h : BkIs w q a p B m) : Calls Tryz.prog 225 #[.pointer (some ⟨q.b, 0, none⟩)] w fun e w' => e = .returned (.int .i64 (p.s - (B.used : Int))) ∧ Gr [] w w' := by
  have c3 := h.c3
  have c4 := h.c4
  obtain ⟨h1, h2, h3, h4, h5, h6⟩ := (okZ_iff _).1 h.ok
  have hu := h.us
  have i1 : IntKind.i64.wrap (p.s - (B.used : Int)) = p.s - (B.used : Int) := IntWalk.i64_in _ (by omega)
  clear h h1 h2 h3 h4 h5 h6 hu
  go_enter Tryz.func225, Tryz.ntmps225
  go_wp2_with fail
  go_quiet (fail)
  go_wp2_with fail
  go_ret
  exact ⟨rfl, (Gr.refl [] w).drewN _⟩
theorem where_out (i : Int) (h : BkIs w q a p B m) (hi : ¬ inP p i) : Calls Tryz.prog 131 #[.pointer (some ⟨q.b, 0, none⟩), .int .i64 i] w fun e w' => e = .returned (.tuple #[.int .i64 0, .int .i64 3]) ∧ w' = w := by
  have c2 := h.c2
  clear h
  by_cases h0 : i < 0
  · clear hi
    go_enter Tryz.func131, Tryz.ntmps131
    go_wp2_with fail
    go_ret2
    exact ⟨rfl, rfl⟩
  · have h1 : p.l ≤ i := by unfold inP at hi; omega
    clear hi
    go_enter Tryz.func131, Tryz.ntmps131
    go_wp2_with fail
    go_ret2
    exact ⟨rfl, rfl⟩
set_option maxHeartbeats 2000000 in
set_option maxRecDepth 100000 in
theorem where_in (i : Int) (h : BkIs w q a p B m) (hi : inP p i) : Calls Tryz.prog 131 #[.pointer (some ⟨q.b, 0, none⟩), .int .i64 i] w fun e w' => e = .returned (.tuple #[.int .i64 (placeP p B i), .int .i64 0]) ∧ Gr [] w w' := by
  obtain ⟨h1, h2, h3, h4, h5, h6⟩ := (okZ_iff _).1 h.ok
  have c1 := h.c1
  have c2 := h.c2
  have c3 := h.c3
  have c5 := h.c5
  obtain ⟨i0, i1⟩ : 0 ≤ i ∧ i < p.l := hi
  have hwf : WfZ i := wfZ (by omega) (by omega)
  have HLK := Lib.hid (h.map.look_ok Tryz.underlying3 (show Tryz.prog.underlying 260 = some (.map 3 3) from Tryz.underlying260) hwf)
  cases e : B.wh i with
  | some k =>
    have hk := h.rg i k e
    have HP := Lib.hid (show placeP p B i = spareP p k by unfold placeP; rw [e])
    have HS := Lib.hid (show Calls Tryz.prog 186 #[.agg #[.int .i64 p.a, .int .i64 p.l, .int .i64 p.s], .int .i64 (k : Int)] w _ from spareat_any p h.ok (k : Int) (by omega) (by omega) w)
    have hlk := HLK.out
    rw [e] at hlk
    replace hlk : _ = Result.ok (Value.tuple #[.int .i64 (k : Int), .bool true]) w := hlk
    clear h HLK e hwf hk
    go_enter Tryz.func131, Tryz.ntmps131
    go_wp2_with fail
    refine HS.out.mono ?_
    rintro e w2 ⟨rfl, hb⟩
    have HG := Lib.hid (Gr.ofBelow (cs := []) hb)
    clear hb
    go_wp2_with fail
    go_ret2
    exact ⟨by rw [HP.out]; rfl, HG.out⟩
  | none =>
    have HP := Lib.hid (show placeP p B i = lineP p i by unfold placeP; rw [e])
    have HS := Lib.hid (show Calls Tryz.prog 187 #[.agg #[.int .i64 p.a, .int .i64 p.l, .int .i64 p.s], .int .i64 i] w _ from lineat_any p h.ok i (by omega) (by omega) w)
    have hlk := HLK.out
    rw [e] at hlk
    replace hlk : _ = Result.ok (Value.tuple #[.int .i64 0, .bool false]) w := hlk
    clear h HLK e hwf
    go_enter Tryz.func131, Tryz.ntmps131
    go_wp2_with fail
    refine HS.out.mono ?_
    rintro e w2 ⟨rfl, hb⟩
    have HG := Lib.hid (Gr.ofBelow (cs := []) hb)
    clear hb
    go_wp2_with fail
    go_ret2
    exact ⟨by rw [HP.out]; rfl, HG.out⟩
theorem place_in {n : Nat} (h : BkIs w q a p B m) (hn : p.a + sizeZ p ≤ (n : Int)) {i : Int} (hi : inP p i) : ∃ l : Nat, placeP p B i = (l : Int) ∧ l < n := by
  obtain ⟨h1, h2, h3, h4, h5, h6⟩ := (okZ_iff _).1 h.ok
  obtain ⟨i0, i1⟩ : 0 ≤ i ∧ i < p.l := hi
  have hs : sizeZ p = tabZ p + p.l + p.s := by unfold sizeZ; rw [if_pos h.ok]
  have ht : 0 ≤ tabZ p := by unfold tabZ; omega
  unfold placeP
  cases e : B.wh i with
  | some k =>
    have := h.rg i k e
    exact ⟨(spareP p k).toNat, by simp only; unfold spareP; omega, by unfold spareP; omega⟩
  | none => exact ⟨(lineP p i).toNat, by simp only; unfold lineP; omega, by unfold lineP; omega⟩
def readR (D : DevS) (p : PlanZ) (B : BkS) (i : Int) : ByteArray × Int := if inP p i then (if D.off then (⟨#[]⟩, 6) else (⟨(getT D (placeP p B i).toNat).toArray⟩, 0)) else (⟨#[]⟩, 3)
theorem read_any {D : DevS} (i : Int) (h : BkIs w q a p B m) (hd : DevIs w a D) (hn : p.a + sizeZ p ≤ (D.n : Int)) :
    Calls Tryz.prog 146 #[.pointer (some ⟨q.b, 0, none⟩), .int .i64 i] w fun e w' => e = .returned (.tuple #[.string (readR D p B i).1, .int .i64 (readR D p B i).2]) ∧ Gr [] w w' := by
  have c0 := h.c0
  by_cases hi : inP p i
  · have HW := Lib.hid (where_in i h hi)
    obtain ⟨l, hl, hln⟩ := place_in h hn hi
    rw [hl] at HW
    have HB := Lib.hid h
    by_cases ho : D.off = true
    · have hr : readR D p B i = (⟨#[]⟩, 6) := by unfold readR; rw [if_pos hi, if_pos ho]
      rw [hr]
      have he : reachE D (isLine D (l : Int)) = 6 := by unfold reachE; rw [if_pos ho]
      have HGt := Lib.hid (fun W (hd : DevIs W a D) => get_err a D (l : Int) W hd (by rw [he]; decide))
      rw [he] at HGt
      have HD := Lib.hid hd
      clear hr h hd hn hi hl ho he
      go_enter Tryz.func146, Tryz.ntmps146
      go_wp2_with fail
      refine HW.out.mono ?_
      rintro e w2 ⟨rfl, g2⟩
      have HG := Lib.hid g2
      have c0 := (HB.out.gr0 g2).c0
      clear g2
      go_wp2_with fail
      refine (HGt.out _ (HD.out.gr0 HG.out)).mono ?_
      rintro e w3 ⟨rfl, rfl⟩
      go_wp2_with fail
      go_ret2
      exact ⟨rfl, HG.out⟩
    · have ho : D.off = false := by simpa using ho
      have hr : readR D p B i = (⟨(getT D l).toArray⟩, 0) := by unfold readR; rw [if_pos hi, ho, hl]; simp
      rw [hr]
      have HGt := Lib.hid (fun W (hd : DevIs W a D) => get_yes a D l W hd hln ho)
      have HD := Lib.hid hd
      clear hr h hd hn hi hl ho hln
      go_enter Tryz.func146, Tryz.ntmps146
      go_wp2_with fail
      refine HW.out.mono ?_
      rintro e w2 ⟨rfl, g2⟩
      have HG := Lib.hid g2
      have c0 := (HB.out.gr0 g2).c0
      clear g2
      go_wp2_with fail
      refine (HGt.out _ (HD.out.gr0 HG.out)).mono ?_
      rintro e w3 ⟨rfl, g3⟩
      have HG3 := Lib.hid g3
      clear g3
      go_wp2_with fail
      go_ret2
      exact ⟨rfl, HG.out.next0 HG3.out⟩
  · have hr : readR D p B i = (⟨#[]⟩, 3) := by unfold readR; rw [if_neg hi]
    rw [hr]
    have HW := Lib.hid (where_out i h hi)
    clear h hd hn hr hi
    go_enter Tryz.func146, Tryz.ntmps146
    go_wp2_with fail
    refine HW.out.mono ?_
    rintro e w2 ⟨rfl, hw⟩
    rw [hw]
    go_wp2_with fail
    go_ret2
    exact ⟨rfl, Gr.refl _ _⟩
end
end Go.Proofs.YtefmbchebobceaaGreat

/-
  Plain lemmas on the two checksums, without any program: the register as a bit vector, and as a list of bits.
-/
namespace Go.Proofs.YtefmbchebobceaaGreat

/-! ### The registers, one bit out and eight -/
def s16 (x : BitVec 16) : BitVec 16 := (x <<< 1) ^^^ (if x.msb then 0x1021#16 else 0#16)
def s32 (x : BitVec 32) : BitVec 32 := (x >>> 1) ^^^ (if x.getLsbD 0 then 0x82F63B78#32 else 0#32)
def b16 (x : BitVec 16) (b : UInt8) : BitVec 16 := s16 (s16 (s16 (s16 (s16 (s16 (s16 (s16 (x ^^^ (BitVec.ofNat 16 b.toNat <<< 8)))))))))
def b32 (x : BitVec 32) (b : UInt8) : BitVec 32 := s32 (s32 (s32 (s32 (s32 (s32 (s32 (s32 (x ^^^ BitVec.ofNat 32 b.toNat))))))))
def c16 (l : List UInt8) (x : BitVec 16) : BitVec 16 := l.foldl b16 x
def c32 (l : List UInt8) (x : BitVec 32) : BitVec 32 := l.foldl b32 x
def sum16 (l : List UInt8) : BitVec 16 := c16 l 0xFFFF#16
def sum32 (l : List UInt8) : BitVec 32 := ~~~ (c32 l 0xFFFFFFFF#32)

/-! ### Linear -/
/-! ### One to one -/
end Go.Proofs.YtefmbchebobceaaGreat
