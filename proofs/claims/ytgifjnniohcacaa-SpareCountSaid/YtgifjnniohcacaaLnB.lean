/-
  Layer 4: PutWord, Put, Took.
-/
import Derived.Test.YtgifjnniohcacaaLnA
namespace Go.Proofs.Ytgifjnniohcacaa
open Go.RowKit

def pwE (D : DevS) (z k : Int) (v : Nat) : Int × DevS := if k < 0 ∨ 7 < k then (2, D) else if isLine D z = true then stos z.toNat k.toNat (fun _ => v) 1 0 D else (3, D)
theorem putword_nil (z k : Int) (v : Nat) (w : World) : Calls Try.prog 41 #[.pointer none, .int .i64 z, .int .i64 k, .int .u64 (v : Int)] w fun e w' => e = .returned (.int .i64 1) ∧ w = w' := by
  go_enter Try.func41, Try.ntmps41
  go_wp2_with fail
  go_ret
  exact ⟨rfl, rfl⟩
set_option maxRecDepth 20000 in
set_option maxHeartbeats 1000000 in
theorem putword_any (a : DevA) (D : DevS) (z k : Int) (v c : Nat) (w : World) (h : DevIs w a D) (hb : Bd D c) (hc : c < 1000000) (hv : v < 18446744073709551616) :
    Calls Try.prog 41 #[.pointer (some ⟨a.bd, 0, none⟩), .int .i64 z, .int .i64 k, .int .u64 (v : Int)] w fun e w' => e = .returned (.int .i64 (pwE D z k v).1) ∧ DevIs w' a (pwE D z k v).2 ∧ Bd (pwE D z k v).2 (c + 10) ∧ Gr a.all w w' := by
  have HD := Lib.hid (And.intro h hb)
  have HV := Lib.hid hv
  by_cases hk0 : k < 0
  · have HE := Lib.hid (show pwE D z k v = (2, D) by unfold pwE; rw [if_pos (.inl hk0)])
    have hd : decide (k < 0) = true := by simpa using hk0
    clear h hb hv hk0
    go_enter Try.func41, Try.ntmps41
    go_wp2_with fail
    go_ret
    rw [HE.out]
    exact ⟨rfl, HD.out.1, HD.out.2.mono (by omega), Gr.refl _ _⟩
  · have hd : decide (k < 0) = false := by simpa using hk0
    by_cases hk7 : 7 < k
    · have HE := Lib.hid (show pwE D z k v = (2, D) by unfold pwE; rw [if_pos (.inr hk7)])
      have hd2 : decide ((8 : Int) ≤ k) = true := by simp; omega
      clear h hb hv hk0 hk7
      go_enter Try.func41, Try.ntmps41
      go_wp2_with fail
      go_ret
      rw [HE.out]
      exact ⟨rfl, HD.out.1, HD.out.2.mono (by omega), Gr.refl _ _⟩
    · have hd2 : decide ((8 : Int) ≤ k) = false := by simp; omega
      have HH := Lib.hid (has_any a D z w h)
      cases hl : isLine D z with
      | false =>
        have HE := Lib.hid (show pwE D z k v = (3, D) by unfold pwE; rw [if_neg (by omega), hl]; rfl)
        rw [hl] at HH
        clear h hb hv hk0 hk7 hl
        go_enter Try.func41, Try.ntmps41
        go_wp2_with fail
        refine HH.out.mono ?_
        rintro e w' ⟨rfl, rfl⟩
        go_wp2_with fail
        go_ret
        rw [HE.out]
        exact ⟨rfl, HD.out.1, HD.out.2.mono (by omega), Gr.refl _ _⟩
      | true =>
        rw [hl] at HH
        have hz : 0 ≤ z ∧ z < D.n := by unfold isLine at hl; exact of_decide_eq_true hl
        obtain ⟨l, rfl⟩ := Int.eq_ofNat_of_zero_le hz.1
        obtain ⟨q, rfl⟩ := Int.eq_ofNat_of_zero_le (show 0 ≤ k by omega)
        have HE := Lib.hid (show pwE D (l : Int) (q : Int) v = stos l q (fun _ => v) 1 0 D by unfold pwE; rw [if_neg (by omega), if_pos hl, Int.toNat_natCast, Int.toNat_natCast])
        have hq8 : q < 8 := by omega
        have hl2 : l < 65536 := by have := h.ok.hi; omega
        have X := Holds.new w #[.int .u64 (v : Int)] 47
        have g1 := (Gr.refl [] w).alloc (Obj.cells #[.int .u64 (v : Int)] 47)
        have HS := Lib.hid (lstore_any a D l q 1 w.heap.size 0 1 c (fun _ => v) _ (h.gr0 g1) hb hc hl2 hq8 (by omega) (by omega) (by unfold maxLen; omega) (fun e => by have := h.lt _ e; omega) (fun i hi => by
          obtain rfl : i = 0 := by omega
          exact X.cell 0) (fun _ _ => hv) X.lt (by omega))
        have HG := Lib.hid g1
        clear h hb hv hk0 hk7 hl hz X g1
        go_enter Try.func41, Try.ntmps41
        go_wp2_with fail
        refine HH.out.mono ?_
        rintro e w' ⟨rfl, rfl⟩
        go_wp2_with fail
        refine HS.out.mono ?_
        rintro e w3 ⟨rfl, d3, b3, g3⟩
        have HN := Lib.hid (And.intro d3 (And.intro b3 (HG.out.of0.trans g3)))
        clear d3 b3 g3
        go_wp2_with fail
        go_ret
        rw [HE.out]
        exact ⟨rfl, HN.out.1, HN.out.2.1, HN.out.2.2⟩

/-! ### Put -/
theorem wdL_lt (l : List UInt8) (k : Nat) : wdL l k < 18446744073709551616 := by
  unfold wdL
  have h := getL_lt ((l.drop (8 * k)).take 8)
  have h2 : ((l.drop (8 * k)).take 8).length ≤ 8 := by simp; omega
  exact Nat.lt_of_lt_of_le h (by
    have : (256 : Nat) ^ ((l.drop (8 * k)).take 8).length ≤ 256 ^ 8 := Nat.pow_le_pow_right (by omega) h2
    exact Nat.le_trans this (by decide))
def wordsV (s : ByteArray) : Array Value := #[.int .u64 (wdL s.data.toList 0), .int .u64 (wdL s.data.toList 1), .int .u64 (wdL s.data.toList 2), .int .u64 (wdL s.data.toList 3), .int .u64 (wdL s.data.toList 4), .int .u64 (wdL s.data.toList 5), .int .u64 (wdL s.data.toList 6), .int .u64 (wdL s.data.toList 7)]
theorem wordsV_at (s : ByteArray) (i : Nat) (h : i < 8) : (wordsV s)[i]? = some (.int .u64 (wdL s.data.toList i : Int)) := by
  rcases (show i = 0 ∨ i = 1 ∨ i = 2 ∨ i = 3 ∨ i = 4 ∨ i = 5 ∨ i = 6 ∨ i = 7 by omega) with rfl | rfl | rfl | rfl | rfl | rfl | rfl | rfl <;> rfl
theorem words_ok (s : ByteArray) (w : World) (h : s.size = 64) : Calls Try.prog 40 #[.string s] w fun e w' => e = .returned (.tuple #[.agg (wordsV s), .int .i64 0]) ∧ Gr [] w w' :=
  (words_yes s w h).mono fun _ _ q => ⟨q.1, .ofBelow q.2⟩
def zeroV : Array Value := #[.int .u64 0, .int .u64 0, .int .u64 0, .int .u64 0, .int .u64 0, .int .u64 0, .int .u64 0, .int .u64 0]
theorem words_bad (s : ByteArray) (w : World) (hs : s.size ≤ maxLen) (h : s.size ≠ 64) : Calls Try.prog 40 #[.string s] w fun e w' => e = .returned (.tuple #[.agg zeroV, .int .i64 2]) ∧ Gr [] w w' :=
  (words_no s w hs h).mono fun _ _ q => ⟨q.1, .ofBelow q.2⟩
def putE (D : DevS) (z : Int) (s : ByteArray) : Int × DevS := if s.size ≠ 64 then (2, D) else if isLine D z = true then stos z.toNat 0 (wdL s.data.toList) 8 0 D else (3, D)
theorem put_nil (z : Int) (s : ByteArray) (w : World) : Calls Try.prog 35 #[.pointer none, .int .i64 z, .string s] w fun e w' => e = .returned (.int .i64 1) ∧ w = w' := by
  go_enter Try.func35, Try.ntmps35
  go_wp2_with fail
  go_ret
  exact ⟨rfl, rfl⟩
set_option maxRecDepth 20000 in
set_option maxHeartbeats 1000000 in
theorem lput_any (a : DevA) (D : DevS) (z : Int) (s : ByteArray) (c : Nat) (w : World) (h : DevIs w a D) (hb : Bd D c) (hc : c < 1000000) (hs : s.size ≤ maxLen) :
    Calls Try.prog 35 #[.pointer (some ⟨a.bd, 0, none⟩), .int .i64 z, .string s] w fun e w' => e = .returned (.int .i64 (putE D z s).1) ∧ DevIs w' a (putE D z s).2 ∧ Bd (putE D z s).2 (c + 10) ∧ Gr a.all w w' := by
  have HD := Lib.hid (And.intro h hb)
  by_cases hsz : s.size = 64
  · have HH := Lib.hid (fun W (g : Gr [] w W) => has_any a D z W (h.gr0 g))
    cases hl : isLine D z with
    | false =>
      have HE := Lib.hid (show putE D z s = (3, D) by unfold putE; rw [if_neg (by simp [hsz]), hl]; rfl)
      have HW := Lib.hid (words_ok s w hsz)
      rw [hl] at HH
      clear h hb hs hsz hl
      go_enter Try.func35, Try.ntmps35
      go_wp2_with fail
      refine HW.out.mono ?_
      rintro e w1 ⟨rfl, g1⟩
      have HG := Lib.hid (g1.alloc (Obj.cells (wordsV s) 78))
      clear g1
      unfold wordsV at *
      go_wp2_with fail
      refine (HH.out _ HG.out).mono ?_
      rintro e w' ⟨rfl, rfl⟩
      go_wp2_with fail
      go_ret
      rw [HE.out]
      exact ⟨rfl, HD.out.1.gr0 HG.out, HD.out.2.mono (by omega), HG.out.of0⟩
    | true =>
      have hz : 0 ≤ z ∧ z < D.n := by unfold isLine at hl; exact of_decide_eq_true hl
      obtain ⟨l, rfl⟩ := Int.eq_ofNat_of_zero_le hz.1
      have HE := Lib.hid (show putE D (l : Int) s = stos l 0 (wdL s.data.toList) 8 0 D by unfold putE; rw [if_neg (by simp [hsz]), if_pos hl, Int.toNat_natCast])
      have HW := Lib.hid (words_ok s w hsz)
      have HL := Lib.hid (show l < 65536 by have := h.ok.hi; omega)
      rw [hl] at HH
      clear h hb hs hsz hl hz
      go_enter Try.func35, Try.ntmps35
      go_wp2_with fail
      refine HW.out.mono ?_
      rintro e w1 ⟨rfl, g1⟩
      have X := Holds.new w1 (wordsV s) 78
      have HG := Lib.hid (g1.alloc (Obj.cells (wordsV s) 78))
      have HS := Lib.hid (lstore_any a D l 0 8 w1.heap.size 0 8 c (wdL s.data.toList) _ (HD.out.1.gr0 HG.out) HD.out.2 hc HL.out (by omega) (by omega) (by omega) (by unfold maxLen; omega) (fun e => by have := HD.out.1.lt _ e; have := g1.size; omega) (fun i hi => by
        rw [Nat.zero_add, X.cell]
        exact wordsV_at s i hi) (fun _ _ => wdL_lt _ _) X.lt (by omega))
      clear g1 X
      unfold wordsV at *
      go_wp2_with fail
      refine (HH.out _ HG.out).mono ?_
      rintro e w' ⟨rfl, rfl⟩
      go_wp2_with fail
      refine HS.out.mono ?_
      rintro e w3 ⟨rfl, d3, b3, g3⟩
      have HN := Lib.hid (And.intro d3 (And.intro b3 (HG.out.of0.trans g3)))
      clear d3 b3 g3
      go_wp2_with fail
      go_ret
      rw [HE.out]
      exact ⟨rfl, HN.out.1, HN.out.2.1, HN.out.2.2⟩
  · have HE := Lib.hid (show putE D z s = (2, D) by unfold putE; rw [if_pos hsz])
    have HW := Lib.hid (words_bad s w hs hsz)
    clear h hb hs hsz
    go_enter Try.func35, Try.ntmps35
    go_wp2_with fail
    refine HW.out.mono ?_
    rintro e w1 ⟨rfl, g1⟩
    have HG := Lib.hid (g1.alloc (Obj.cells zeroV 78))
    clear g1
    unfold zeroV at *
    go_wp2_with fail
    go_ret
    rw [HE.out]
    exact ⟨rfl, HD.out.1.gr0 HG.out, HD.out.2.mono (by omega), HG.out.of0⟩

end Go.Proofs.Ytgifjnniohcacaa
