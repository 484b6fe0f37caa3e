/-
  Layer 4: Took, Get.
-/
import Derived.Test.YtgifjnniohcacaaGreatMgL
import Derived.Deep.MidRow
namespace Go.Proofs.YtgifjnniohcacaaGreat
open Go.RowKit

def tookB (D : DevS) (z : Int) (s : ByteArray) : Bool := decide (s.size = 64) && (isLine D z && (List.range 8).all fun k => D.med (8 * z.toNat + k) == wdL s.data.toList k)
theorem took_nil (z : Int) (s : ByteArray) (w : World) (hs : s.size ≤ maxLen) : Calls Tryz.prog 32 #[.pointer none, .int .i64 z, .string s] w fun e w' => e = .returned (.bool false) ∧ Gr [] w w' := by
  by_cases hsz : s.size = 64
  · have HW := Lib.hid (words_ok s w hsz)
    clear hs hsz
    go_enter Tryz.func32, Tryz.ntmps32
    go_wp2_with fail
    refine HW.out.mono ?_
    rintro e w1 ⟨rfl, g1⟩
    have HG := Lib.hid (g1.alloc (Obj.cells (wordsV s) 82))
    clear g1
    unfold wordsV at *
    go_wp2_with fail
    refine (has_nil z _).mono ?_
    rintro e w' ⟨rfl, rfl⟩
    go_wp2_with fail
    go_ret
    exact ⟨rfl, HG.out⟩
  · have HW := Lib.hid (words_bad s w hs hsz)
    clear hs hsz
    go_enter Tryz.func32, Tryz.ntmps32
    go_wp2_with fail
    refine HW.out.mono ?_
    rintro e w1 ⟨rfl, g1⟩
    have HG := Lib.hid (g1.alloc (Obj.cells zeroV 82))
    clear g1
    unfold zeroV at *
    go_wp2_with fail
    go_ret
    exact ⟨rfl, HG.out⟩
set_option maxRecDepth 20000 in
set_option maxHeartbeats 1000000 in
theorem took_any (a : DevA) (D : DevS) (z : Int) (s : ByteArray) (w : World) (h : DevIs w a D) (hs : s.size ≤ maxLen) :
    Calls Tryz.prog 32 #[.pointer (some ⟨a.bd, 0, none⟩), .int .i64 z, .string s] w fun e w' => e = .returned (.bool (tookB D z s)) ∧ Gr [] w w' := by
  have HD := Lib.hid h
  by_cases hsz : s.size = 64
  · have HW := Lib.hid (words_ok s w hsz)
    have HH := Lib.hid (fun W (g : Gr [] w W) => has_any a D z W (h.gr0 g))
    cases hl : isLine D z with
    | false =>
      have HE := Lib.hid (show tookB D z s = false by unfold tookB; rw [hl]; simp)
      rw [hl] at HH
      clear h hs hsz hl
      go_enter Tryz.func32, Tryz.ntmps32
      go_wp2_with fail
      refine HW.out.mono ?_
      rintro e w1 ⟨rfl, g1⟩
      have HG := Lib.hid (g1.alloc (Obj.cells (wordsV s) 82))
      clear g1
      unfold wordsV at *
      go_wp2_with fail
      refine (HH.out _ HG.out).mono ?_
      rintro e w' ⟨rfl, rfl⟩
      go_wp2_with fail
      go_ret
      rw [HE.out]
      exact ⟨rfl, HG.out⟩
    | true =>
      have hz : 0 ≤ z ∧ z < D.n := by unfold isLine at hl; exact of_decide_eq_true hl
      obtain ⟨l, rfl⟩ := Int.eq_ofNat_of_zero_le hz.1
      have HE := Lib.hid (show tookB D (l : Int) s = (List.range 8).all fun k => D.med (8 * l + k) == wdL s.data.toList k by unfold tookB; rw [hl, decide_eq_true hsz, Int.toNat_natCast]; simp)
      have hl2 : l < 8192 := by have := h.ok.hi; omega
      have HL := Lib.hid (show l < D.n by omega)
      rw [hl] at HH
      clear h hs hsz hl hz
      go_enter Tryz.func32, Tryz.ntmps32
      go_wp2_with fail
      refine HW.out.mono ?_
      rintro e w1 ⟨rfl, g1⟩
      have HG := Lib.hid (g1.alloc (Obj.cells (wordsV s) 82))
      have X := Holds.new w1 (wordsV s) 82
      clear g1
      unfold wordsV at *
      have HNS := Lib.hid (show ∀ k, k < 8 → [wdL s.data.toList 0, wdL s.data.toList 1, wdL s.data.toList 2, wdL s.data.toList 3, wdL s.data.toList 4, wdL s.data.toList 5, wdL s.data.toList 6, wdL s.data.toList 7][k]? = some (wdL s.data.toList k) from fun k hk => by
        rcases (show k = 0 ∨ k = 1 ∨ k = 2 ∨ k = 3 ∨ k = 4 ∨ k = 5 ∨ k = 6 ∨ k = 7 by omega) with rfl | rfl | rfl | rfl | rfl | rfl | rfl | rfl <;> rfl)
      generalize wdL s.data.toList 0 = n0 at *
      generalize wdL s.data.toList 1 = n1 at *
      generalize wdL s.data.toList 2 = n2 at *
      generalize wdL s.data.toList 3 = n3 at *
      generalize wdL s.data.toList 4 = n4 at *
      generalize wdL s.data.toList 5 = n5 at *
      generalize wdL s.data.toList 6 = n6 at *
      generalize wdL s.data.toList 7 = n7 at *
      obtain ⟨k0, k1, k2, k3, k4, k5, k6, k7⟩ := X.eight
      clear X
      go_wp2_with fail
      refine (HH.out _ HG.out).mono ?_
      rintro e w' ⟨rfl, rfl⟩
      go_wp2_with fail
      clear k0 k1 k2 k3 k4 k5 k6 k7
      generalize w1.alloc (Obj.cells #[.int .u64 (n0 : Int), .int .u64 (n1 : Int), .int .u64 (n2 : Int), .int .u64 (n3 : Int), .int .u64 (n4 : Int), .int .u64 (n5 : Int), .int .u64 (n6 : Int), .int .u64 (n7 : Int)] 82) = wa at *
      go_loopw [25] (fun z wr => ∃ k : Nat, k ≤ 8 ∧ z = .int .i64 (k : Int) ∧ (∀ j, j < k → D.med (8 * l + j) = wdL s.data.toList j) ∧ wa = wr) (fun z _ => 8 - (intOf z).toNat)
      case atStart => exact ⟨0, by omega, rfl, fun j hj => by omega, rfl⟩
      case round =>
        obtain ⟨k, hk, rfl, hall, rfl⟩ := hrel
        have HALL := Lib.hid hall
        clear hall
        by_cases hlt : k < 8
        · have hd : decide ((k : Int) < 8) = true := by simp; omega
          obtain ⟨N, hN⟩ : ∃ N, N = wdL s.data.toList k := ⟨_, rfl⟩
          have hix := index8 n0 n1 n2 n3 n4 n5 n6 n7 k N (by rw [hN]; exact HNS.out k hlt)
          obtain ⟨q, hq⟩ : ∃ q : Nat, q = 8 * l + k := ⟨_, rfl⟩
          have hq2 : (l : Int) * 8 + (k : Int) = (q : Int) := by omega
          have HM := Lib.hid (media_in a D q wa (HD.out.gr0 HG.out) (by have := HL.out; omega))
          obtain ⟨M, hM⟩ : ∃ M, D.med q = M := ⟨_, rfl⟩
          rw [hM] at HM
          by_cases he : M = N
          · have HA := Lib.hid (show ∀ j, j < k + 1 → D.med (8 * l + j) = wdL s.data.toList j from fun j hj => by
              by_cases c : j = k
              · subst c; rw [← hq, hM, he, hN]
              · exact HALL.out j (by omega))
            clear hN hq hM
            subst he
            go_wp2_with fail
            refine HM.out.mono ?_
            rintro e w' ⟨rfl, rfl⟩
            go_wp2_with fail
            go_roundw
            case rel => exact ⟨k + 1, by omega, by go_num, HA.out, by first | rfl | trivial⟩
            case measure => simp [intOf]; omega
          · have HA := Lib.hid (show ((List.range 8).all fun k => D.med (8 * l + k) == wdL s.data.toList k) = false by
              rw [List.all_eq_false]
              exact ⟨k, List.mem_range.2 hlt, by rw [← hq, hM, ← hN]; simpa using he⟩)
            have he2 : ((M : Int) == (N : Int)) = false := by simp; omega
            have he3 : ((M : Int) != (N : Int)) = true := by simp; omega
            clear hN hq hM he
            go_wp2_with fail
            refine HM.out.mono ?_
            rintro e w' ⟨rfl, rfl⟩
            go_wp2_with fail
            go_ret
            rw [HE.out, HA.out]
            exact ⟨rfl, HG.out⟩
        · obtain rfl : k = 8 := by omega
          have HA := Lib.hid (show ((List.range 8).all fun k => D.med (8 * l + k) == wdL s.data.toList k) = true by
            rw [List.all_eq_true]
            intro j hj
            rw [List.mem_range] at hj
            simpa using HALL.out j hj)
          rw [show ((8 : Nat) : Int) = 8 from rfl]
          go_wp2_with fail
          go_ret
          rw [HE.out, HA.out]
          exact ⟨rfl, HG.out⟩
  · have HW := Lib.hid (words_bad s w hs hsz)
    have HE := Lib.hid (show tookB D z s = false by unfold tookB; rw [decide_eq_false hsz]; rfl)
    clear h hs hsz
    go_enter Tryz.func32, Tryz.ntmps32
    go_wp2_with fail
    refine HW.out.mono ?_
    rintro e w1 ⟨rfl, g1⟩
    have HG := Lib.hid (g1.alloc (Obj.cells zeroV 82))
    clear g1
    unfold zeroV at *
    go_wp2_with fail
    go_ret
    rw [HE.out]
    exact ⟨rfl, HG.out⟩

/-! ### Get -/
theorem loadV_lt {D : DevS} (h : DevOk D) (i : Nat) : loadV D i < 18446744073709551616 := by
  unfold loadV
  cases hb : D.buf (i : Int) with
  | none => exact h.medB i
  | some p => exact h.bufB _ p hb
def getT (D : DevS) (l : Nat) : List UInt8 := catL [loadV D (8 * l), loadV D (8 * l + 1), loadV D (8 * l + 2), loadV D (8 * l + 3), loadV D (8 * l + 4), loadV D (8 * l + 5), loadV D (8 * l + 6), loadV D (8 * l + 7)]
set_option maxRecDepth 20000 in
theorem get_nil (z : Int) (w : World) : Calls Tryz.prog 41 #[.pointer none, .int .i64 z] w fun e w' => e = .returned (.tuple #[.string ⟨#[]⟩, .int .i64 1]) ∧ w = w' := by
  go_enter Tryz.func41, Tryz.ntmps41
  go_wp2_with fail
  refine (has_nil z _).mono ?_
  rintro e w' ⟨rfl, rfl⟩
  go_wp2_with fail
  refine (load_nil (-1) _).mono ?_
  rintro e w' ⟨rfl, rfl⟩
  go_wp2_with fail
  go_ret2
  exact ⟨rfl, rfl⟩
set_option maxRecDepth 20000 in
theorem get_err (a : DevA) (D : DevS) (z : Int) (w : World) (h : DevIs w a D) (he : reachE D (isLine D z) ≠ 0) :
    Calls Tryz.prog 41 #[.pointer (some ⟨a.bd, 0, none⟩), .int .i64 z] w fun e w' => e = .returned (.tuple #[.string ⟨#[]⟩, .int .i64 (reachE D (isLine D z))]) ∧ w = w' := by
  have HH := Lib.hid (has_any a D z w h)
  cases hl : isLine D z with
  | false =>
    have q : decide ((0 : Int) ≤ -1 ∧ (-1 : Int) < 8 * D.n) = false := by simp
    have HL := Lib.hid (load_err a D (-1) w h (by rw [q]; rw [hl] at he; exact he))
    rw [q] at HL
    rw [hl] at HH he
    clear h hl q
    generalize reachE D false = ev at *
    have e2 : (ev == 0) = false := by simpa using he
    clear he
    go_enter Tryz.func41, Tryz.ntmps41
    go_wp2_with fail
    refine HH.out.mono ?_
    rintro e w' ⟨rfl, rfl⟩
    go_wp2_with fail
    refine HL.out.mono ?_
    rintro e w' ⟨rfl, rfl⟩
    go_wp2_with fail
    go_ret2
    exact ⟨rfl, rfl⟩
  | true =>
    have hz : 0 ≤ z ∧ z < D.n := by unfold isLine at hl; exact of_decide_eq_true hl
    have q : decide ((0 : Int) ≤ z * 8 ∧ z * 8 < 8 * D.n) = true := by simp; omega
    have HL := Lib.hid (load_err a D (z * 8) w h (by rw [q]; rw [hl] at he; exact he))
    rw [q] at HL
    rw [hl] at HH he
    have hn := h.ok.hi
    have hz0 := hz.1
    have hz1 : z < 8192 := by omega
    clear h hl q hz
    generalize reachE D true = ev at *
    have e2 : (ev == 0) = false := by simpa using he
    clear he
    go_enter Tryz.func41, Tryz.ntmps41
    go_wp2_with fail
    refine HH.out.mono ?_
    rintro e w' ⟨rfl, rfl⟩
    go_wp2_with fail
    refine HL.out.mono ?_
    rintro e w' ⟨rfl, rfl⟩
    go_wp2_with fail
    go_ret2
    exact ⟨rfl, rfl⟩
def getR (F : Nat → Nat) (k : Nat) : Array Value := rowOf (fun j => .int .u64 ((if j < k then F j else 0 : Nat) : Int)) 8
theorem getR_next (F : Nat → Nat) (k : Nat) : (getR F k).setIfInBounds k (.int .u64 (F k : Int)) = getR F (k + 1) := by
  unfold getR
  rw [rowOf_set]
  refine rowOf_congr fun j _ => ?_
  by_cases e : j = k
  · subst e; rw [if_pos rfl, if_pos (by omega)]
  · rw [if_neg e]
    by_cases c : j < k
    · rw [if_pos c, if_pos (by omega)]
    · rw [if_neg c, if_neg (by omega)]
theorem siz8u : (Tryz.prog.info? 82).map (·.size) = some 8 := by kernel_rfl
set_option maxRecDepth 20000 in
set_option maxHeartbeats 1000000 in
theorem get_yes (a : DevA) (D : DevS) (l : Nat) (w : World) (h : DevIs w a D) (hl : l < D.n) (ho : D.off = false) :
    Calls Tryz.prog 41 #[.pointer (some ⟨a.bd, 0, none⟩), .int .i64 (l : Int)] w fun e w' => e = .returned (.tuple #[.string ⟨(getT D l).toArray⟩, .int .i64 0]) ∧ Gr [] w w' := by
  have hl2 : l < 8192 := by have := h.ok.hi; omega
  have HH := Lib.hid (has_any a D (l : Int) w h)
  rw [show isLine D (l : Int) = true by unfold isLine; rw [decide_eq_true_eq]; omega] at HH
  obtain ⟨F, hF⟩ : ∃ F : Nat → Nat, ∀ k, F k = loadV D (8 * l + k) := ⟨fun k => loadV D (8 * l + k), fun _ => rfl⟩
  have HFB := Lib.hid (show ∀ k, F k < 18446744073709551616 from fun k => by rw [hF]; exact loadV_lt h.ok _)
  have HL := Lib.hid (show ∀ W, Gr [] w W → ∀ k : Nat, k < 8 → Calls Tryz.prog 58 #[.pointer (some ⟨a.bd, 0, none⟩), .int .i64 ((8 * l + k : Nat) : Int)] W fun e w' => e = .returned (.tuple #[.int .u64 (F k : Int), .int .i64 0]) ∧ Gr [] W w' from fun W g k hk => by rw [hF]; exact load_ok a D (8 * l + k) W (h.gr0 g) ho (by omega))
  have HT := Lib.hid (show getT D l = catL [F 0, F 1, F 2, F 3, F 4, F 5, F 6, F 7] by unfold getT; rw [hF, hF, hF, hF, hF, hF, hF, hF]; rfl)
  clear h hl ho hF
  go_enter Tryz.func41, Tryz.ntmps41
  go_wp2_with fail
  refine HH.out.mono ?_
  rintro e w' ⟨rfl, rfl⟩
  obtain ⟨B, hB⟩ : ∃ B : Nat, B = 8 * l := ⟨_, rfl⟩
  have hB2 : (l : Int) * 8 = (B : Int) := by omega
  have hB3 : B < 65536 := by omega
  rw [← hB] at HL
  clear hB
  go_wp2_with fail
  refine (HL.out _ (Gr.refl _ _) 0 (by omega)).mono ?_
  rintro e w1 ⟨rfl, g1⟩
  go_wp2_with fail
  have e0 : getR F 0 = #[Value.int .u64 0, Value.int .u64 0, Value.int .u64 0, Value.int .u64 0, Value.int .u64 0, Value.int .u64 0, Value.int .u64 0, Value.int .u64 0] := by kernel_rfl
  have HLT := Lib.hid (Holds.new w1 #[Value.int .u64 0, Value.int .u64 0, Value.int .u64 0, Value.int .u64 0, Value.int .u64 0, Value.int .u64 0, Value.int .u64 0, Value.int .u64 0] 82).lt
  have HX := Lib.hid (show Holds (w1.alloc (Obj.cells #[Value.int .u64 0, Value.int .u64 0, Value.int .u64 0, Value.int .u64 0, Value.int .u64 0, Value.int .u64 0, Value.int .u64 0, Value.int .u64 0] 82)) w1.heap.size (getR F 0) 82 ∧ Gr [] w (w1.alloc (Obj.cells #[Value.int .u64 0, Value.int .u64 0, Value.int .u64 0, Value.int .u64 0, Value.int .u64 0, Value.int .u64 0, Value.int .u64 0, Value.int .u64 0] 82)) by rw [← e0]; exact ⟨Holds.new w1 _ _, g1.alloc _⟩)
  have HS := Lib.hid g1.size
  clear g1 e0
  generalize w1.alloc (Obj.cells #[Value.int .u64 0, Value.int .u64 0, Value.int .u64 0, Value.int .u64 0, Value.int .u64 0, Value.int .u64 0, Value.int .u64 0, Value.int .u64 0] 82) = wa at *
  generalize w1.heap.size = b9 at *
  go_loopw [27] (fun z wr => ∃ k : Nat, k ≤ 8 ∧ z = .int .i64 (k : Int) ∧ Holds wr b9 (getR F k) 82 ∧ Gr [] w wr) (fun z _ => 8 - (intOf z).toNat)
  case atStart => exact ⟨0, by omega, rfl, HX.out.1, HX.out.2⟩
  case round =>
    clear HX
    obtain ⟨k, hk, rfl, X, g⟩ := hrel
    by_cases hlt : k < 8
    · have hd : decide ((k : Int) < 8) = true := by simp; omega
      have HLk := Lib.hid (HL.out wr g k hlt)
      obtain ⟨q, hq⟩ : ∃ q : Nat, q = B + k := ⟨_, rfl⟩
      have hq2 : (B : Int) + (k : Int) = (q : Int) := by omega
      rw [← hq] at HLk
      have HX := Lib.hid (And.intro X g)
      clear X g hq
      go_wp2_with fail
      refine HLk.out.mono ?_
      rintro e w3 ⟨rfl, g3⟩
      have X3 := HX.out.1.gr0 g3
      have c0 : w3.cell? ⟨b9, k, none⟩ = some (.int .u64 0) := by rw [X3.cell]; unfold getR; rw [rowOf_get _ _ _ hlt, if_neg (by omega)]; rfl
      have f0 : w3.frozen? ⟨b9, k, none⟩ = false := X3.frozen k
      have HN := Lib.hid (And.intro (show Holds (w3.setCell ⟨b9, k, none⟩ (.int .u64 (F k : Int))) b9 (getR F (k + 1)) 82 by rw [← getR_next]; exact X3.set k _) ((HX.out.2.trans g3).setCell (p := ⟨b9, k, none⟩) (.inr HS.out) (.int .u64 (F k : Int))))
      clear X3 g3 HLk
      generalize F k = v at *
      go_wp2_with fail
      go_roundw
      case rel => exact ⟨k + 1, by omega, by go_num, HN.out.1, HN.out.2⟩
      case measure => simp [intOf]; omega
    · obtain rfl : k = 8 := by omega
      have HR := Lib.hid (show wr.rangeAt b9 0 (getR F 8).toList from fun j v hv => by rw [Nat.zero_add, X.cell, ← Array.getElem?_toList]; exact hv)
      have e8 : getR F 8 = #[Value.int .u64 (F 0 : Int), Value.int .u64 (F 1 : Int), Value.int .u64 (F 2 : Int), Value.int .u64 (F 3 : Int), Value.int .u64 (F 4 : Int), Value.int .u64 (F 5 : Int), Value.int .u64 (F 6 : Int), Value.int .u64 (F 7 : Int)] := by kernel_rfl
      have HE8 := Lib.hid e8
      have HG := Lib.hid g
      have HTX := Lib.hid (text_any (F 0) (F 1) (F 2) (F 3) (F 4) (F 5) (F 6) (F 7) (fun n hn => by
        simp only [List.mem_cons, List.not_mem_nil, or_false] at hn
        rcases hn with rfl | rfl | rfl | rfl | rfl | rfl | rfl | rfl <;> exact HFB.out _) wr)
      clear X g e8
      rw [show ((8 : Nat) : Int) = 8 from rfl]
      go_wp2_with (refine wpList_load_mid rfl 82 _ rfl b9 0 rfl (getR F 8).toList _ HR.out Tryz.underlying82 rfl (by rw [show (getR F 8).toList.length = 8 by unfold getR rowOf; simp]; exact siz8u) ?_)
      rw [HE8.out]
      refine HTX.out.mono ?_
      rintro e w4 ⟨rfl, hb4⟩
      have HG4 := Lib.hid (HG.out.nextB hb4)
      clear hb4
      go_wp2_with fail
      go_ret2
      rw [HT.out]
      exact ⟨rfl, HG4.out⟩

end Go.Proofs.YtgifjnniohcacaaGreat
