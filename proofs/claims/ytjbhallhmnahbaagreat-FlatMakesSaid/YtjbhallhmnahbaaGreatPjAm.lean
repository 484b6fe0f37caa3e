/-
  PjAm: LnC, SpC, CrcPure.
-/
import Derived.Test.YtjbhallhmnahbaaGreatPjAl
import Derived.Test.YtjbhallhmnahbaaGreatPjAb
import Derived.Deep.MidRow
import Derived.WalkKit

set_option linter.unusedVariables false

/-
  Layer 4: Took, Get.
-/
namespace Go.Proofs.YtjbhallhmnahbaaGreat
open Go.RowKit

def tookB (D : DevS) (z : Int) (s : ByteArray) : Bool := decide (s.size = 64) && (isLine D z && (List.range 8).all fun k => D.med (8 * z.toNat + k) == wdL s.data.toList k)
set_option maxRecDepth 20000 in
set_option maxHeartbeats 1000000 in
theorem took_any (a : DevA) (D : DevS) (z : Int) (s : ByteArray) (w : World) (h : DevIs w a D) (hs : s.size ≤ maxLen) :
    Calls Tryz.prog 49 #[.pointer (some ⟨a.bd, 0, none⟩), .int .i64 z, .string s] w fun e w' => e = .returned (.bool (tookB D z s)) ∧ Gr [] w w' := by
  have HD := Lib.hid h
  by_cases hsz : s.size = 64
  · have HW := Lib.hid (words_ok s w hsz)
    have HH := Lib.hid (fun W (g : Gr [] w W) => has_any a D z W (h.gr0 g))
    cases hl : isLine D z with
    | false =>
      have HE := Lib.hid (show tookB D z s = false by unfold tookB; rw [hl]; simp)
      rw [hl] at HH
      clear h hs hsz hl
      go_enter Tryz.func49, Tryz.ntmps49
      go_wp2_with fail
      refine HW.out.mono ?_
      rintro e w1 ⟨rfl, g1⟩
      have HG := Lib.hid (g1.alloc (Obj.cells (wordsV s) 105))
      clear g1
      unfold wordsV at *
      go_wp2_with fail
      refine (HH.out _ HG.out).mono ?_
      rintro e w' ⟨rfl, rfl⟩
      go_wp2_with fail
      go_ret
      rw [HE.out]
      exact ⟨rfl, HG.out⟩
    | true =>
      have hz : 0 ≤ z ∧ z < D.n := by unfold isLine at hl; exact of_decide_eq_true hl
      obtain ⟨l, rfl⟩ := Int.eq_ofNat_of_zero_le hz.1
      have HE := Lib.hid (show tookB D (l : Int) s = (List.range 8).all fun k => D.med (8 * l + k) == wdL s.data.toList k by unfold tookB; rw [hl, decide_eq_true hsz, Int.toNat_natCast]; simp)
      have hl2 : l < 8192 := by have := h.ok.hi; omega
      have HL := Lib.hid (show l < D.n by omega)
      rw [hl] at HH
      clear h hs hsz hl hz
      go_enter Tryz.func49, Tryz.ntmps49
      go_wp2_with fail
      refine HW.out.mono ?_
      rintro e w1 ⟨rfl, g1⟩
      have HG := Lib.hid (g1.alloc (Obj.cells (wordsV s) 105))
      have X := Holds.new w1 (wordsV s) 105
      clear g1
      unfold wordsV at *
      have HNS := Lib.hid (show ∀ k, k < 8 → [wdL s.data.toList 0, wdL s.data.toList 1, wdL s.data.toList 2, wdL s.data.toList 3, wdL s.data.toList 4, wdL s.data.toList 5, wdL s.data.toList 6, wdL s.data.toList 7][k]? = some (wdL s.data.toList k) from fun k hk => by
        rcases (show k = 0 ∨ k = 1 ∨ k = 2 ∨ k = 3 ∨ k = 4 ∨ k = 5 ∨ k = 6 ∨ k = 7 by omega) with rfl | rfl | rfl | rfl | rfl | rfl | rfl | rfl <;> rfl)
      generalize wdL s.data.toList 0 = n0 at *
      generalize wdL s.data.toList 1 = n1 at *
      generalize wdL s.data.toList 2 = n2 at *
      generalize wdL s.data.toList 3 = n3 at *
      generalize wdL s.data.toList 4 = n4 at *
      generalize wdL s.data.toList 5 = n5 at *
      generalize wdL s.data.toList 6 = n6 at *
      generalize wdL s.data.toList 7 = n7 at *
      obtain ⟨k0, k1, k2, k3, k4, k5, k6, k7⟩ := X.eight
      clear X
      go_wp2_with fail
      refine (HH.out _ HG.out).mono ?_
      rintro e w' ⟨rfl, rfl⟩
      go_wp2_with fail
      clear k0 k1 k2 k3 k4 k5 k6 k7
      generalize w1.alloc (Obj.cells #[.int .u64 (n0 : Int), .int .u64 (n1 : Int), .int .u64 (n2 : Int), .int .u64 (n3 : Int), .int .u64 (n4 : Int), .int .u64 (n5 : Int), .int .u64 (n6 : Int), .int .u64 (n7 : Int)] 105) = wa at *
      go_loopw [25] (fun z wr => ∃ k : Nat, k ≤ 8 ∧ z = .int .i64 (k : Int) ∧ (∀ j, j < k → D.med (8 * l + j) = wdL s.data.toList j) ∧ wa = wr) (fun z _ => 8 - (intOf z).toNat)
      case atStart => exact ⟨0, by omega, rfl, fun j hj => by omega, rfl⟩
      case round =>
        obtain ⟨k, hk, rfl, hall, rfl⟩ := hrel
        have HALL := Lib.hid hall
        clear hall
        by_cases hlt : k < 8
        · have hd : decide ((k : Int) < 8) = true := by simp; omega
          obtain ⟨N, hN⟩ : ∃ N, N = wdL s.data.toList k := ⟨_, rfl⟩
          have hix := index8 n0 n1 n2 n3 n4 n5 n6 n7 k N (by rw [hN]; exact HNS.out k hlt)
          obtain ⟨q, hq⟩ : ∃ q : Nat, q = 8 * l + k := ⟨_, rfl⟩
          have hq2 : (l : Int) * 8 + (k : Int) = (q : Int) := by omega
          have HM := Lib.hid (media_in a D q wa (HD.out.gr0 HG.out) (by have := HL.out; omega))
          obtain ⟨M, hM⟩ : ∃ M, D.med q = M := ⟨_, rfl⟩
          rw [hM] at HM
          by_cases he : M = N
          · have HA := Lib.hid (show ∀ j, j < k + 1 → D.med (8 * l + j) = wdL s.data.toList j from fun j hj => by
              by_cases c : j = k
              · subst c; rw [← hq, hM, he, hN]
              · exact HALL.out j (by omega))
            clear hN hq hM
            subst he
            go_wp2_with fail
            refine HM.out.mono ?_
            rintro e w' ⟨rfl, rfl⟩
            go_wp2_with fail
            go_roundw
            case rel => exact ⟨k + 1, by omega, by go_num, HA.out, by first | rfl | trivial⟩
            case measure => simp [intOf]; omega
          · have HA := Lib.hid (show ((List.range 8).all fun k => D.med (8 * l + k) == wdL s.data.toList k) = false by
              rw [List.all_eq_false]
              exact ⟨k, List.mem_range.2 hlt, by rw [← hq, hM, ← hN]; simpa using he⟩)
            have he2 : ((M : Int) == (N : Int)) = false := by simp; omega
            have he3 : ((M : Int) != (N : Int)) = true := by simp; omega
            clear hN hq hM he
            go_wp2_with fail
            refine HM.out.mono ?_
            rintro e w' ⟨rfl, rfl⟩
            go_wp2_with fail
            go_ret
            rw [HE.out, HA.out]
            exact ⟨rfl, HG.out⟩
        · obtain rfl : k = 8 := by omega
          have HA := Lib.hid (show ((List.range 8).all fun k => D.med (8 * l + k) == wdL s.data.toList k) = true by
            rw [List.all_eq_true]
            intro j hj
            rw [List.mem_range] at hj
            simpa using HALL.out j hj)
          rw [show ((8 : Nat) : Int) = 8 from rfl]
          go_wp2_with fail
          go_ret
          rw [HE.out, HA.out]
          exact ⟨rfl, HG.out⟩
  · have HW := Lib.hid (words_bad s w hs hsz)
    have HE := Lib.hid (show tookB D z s = false by unfold tookB; rw [decide_eq_false hsz]; rfl)
    clear h hs hsz
    go_enter Tryz.func49, Tryz.ntmps49
    go_wp2_with fail
    refine HW.out.mono ?_
    rintro e w1 ⟨rfl, g1⟩
    have HG := Lib.hid (g1.alloc (Obj.cells zeroV 105))
    clear g1
    unfold zeroV at *
    go_wp2_with fail
    go_ret
    rw [HE.out]
    exact ⟨rfl, HG.out⟩

/-! ### Get -/
theorem loadV_lt {D : DevS} (h : DevOk D) (i : Nat) : loadV D i < 18446744073709551616 := by
  unfold loadV
  cases hb : D.buf (i : Int) with
  | none => exact h.medB i
  | some p => exact h.bufB _ p hb
def getT (D : DevS) (l : Nat) : List UInt8 := catL [loadV D (8 * l), loadV D (8 * l + 1), loadV D (8 * l + 2), loadV D (8 * l + 3), loadV D (8 * l + 4), loadV D (8 * l + 5), loadV D (8 * l + 6), loadV D (8 * l + 7)]
set_option maxRecDepth 20000 in
theorem get_nil (z : Int) (w : World) : Calls Tryz.prog 55 #[.pointer none, .int .i64 z] w fun e w' => e = .returned (.tuple #[.string ⟨#[]⟩, .int .i64 1]) ∧ w = w' := by
  go_enter Tryz.func55, Tryz.ntmps55
  go_wp2_with fail
  refine (has_nil z _).mono ?_
  rintro e w' ⟨rfl, rfl⟩
  go_wp2_with fail
  refine (load_nil (-1) _).mono ?_
  rintro e w' ⟨rfl, rfl⟩
  go_wp2_with fail
  go_ret2
  exact ⟨rfl, rfl⟩
set_option maxRecDepth 20000 in
theorem get_err (a : DevA) (D : DevS) (z : Int) (w : World) (h : DevIs w a D) (he : reachE D (isLine D z) ≠ 0) :
    Calls Tryz.prog 55 #[.pointer (some ⟨a.bd, 0, none⟩), .int .i64 z] w fun e w' => e = .returned (.tuple #[.string ⟨#[]⟩, .int .i64 (reachE D (isLine D z))]) ∧ w = w' := by
  have HH := Lib.hid (has_any a D z w h)
  cases hl : isLine D z with
  | false =>
    have q : decide ((0 : Int) ≤ -1 ∧ (-1 : Int) < 8 * D.n) = false := by simp
    have HL := Lib.hid (load_err a D (-1) w h (by rw [q]; rw [hl] at he; exact he))
    rw [q] at HL
    rw [hl] at HH he
    clear h hl q
    generalize reachE D false = ev at *
    have e2 : (ev == 0) = false := by simpa using he
    clear he
    go_enter Tryz.func55, Tryz.ntmps55
    go_wp2_with fail
    refine HH.out.mono ?_
    rintro e w' ⟨rfl, rfl⟩
    go_wp2_with fail
    refine HL.out.mono ?_
    rintro e w' ⟨rfl, rfl⟩
    go_wp2_with fail
    go_ret2
    exact ⟨rfl, rfl⟩
  | true =>
    have hz : 0 ≤ z ∧ z < D.n := by unfold isLine at hl; exact of_decide_eq_true hl
    have q : decide ((0 : Int) ≤ z * 8 ∧ z * 8 < 8 * D.n) = true := by simp; omega
    have HL := Lib.hid (load_err a D (z * 8) w h (by rw [q]; rw [hl] at he; exact he))
    rw [q] at HL
    rw [hl] at HH he
    have hn := h.ok.hi
    have hz0 := hz.1
    have hz1 : z < 8192 := by omega
    clear h hl q hz
    generalize reachE D true = ev at *
    have e2 : (ev == 0) = false := by simpa using he
    clear he
    go_enter Tryz.func55, Tryz.ntmps55
    go_wp2_with fail
    refine HH.out.mono ?_
    rintro e w' ⟨rfl, rfl⟩
    go_wp2_with fail
    refine HL.out.mono ?_
    rintro e w' ⟨rfl, rfl⟩
    go_wp2_with fail
    go_ret2
    exact ⟨rfl, rfl⟩
def getR (F : Nat → Nat) (k : Nat) : Array Value := rowOf (fun j => .int .u64 ((if j < k then F j else 0 : Nat) : Int)) 8
theorem getR_next (F : Nat → Nat) (k : Nat) : (getR F k).setIfInBounds k (.int .u64 (F k : Int)) = getR F (k + 1) := by
  unfold getR
  rw [rowOf_set]
  refine rowOf_congr fun j _ => ?_
  by_cases e : j = k
  · subst e; rw [if_pos rfl, if_pos (by omega)]
  · rw [if_neg e]
    by_cases c : j < k
    · rw [if_pos c, if_pos (by omega)]
    · rw [if_neg c, if_neg (by omega)]
theorem siz8u : (Tryz.prog.info? 105).map (·.size) = some 8 := by kernel_rfl
set_option maxRecDepth 20000 in
set_option maxHeartbeats 1000000 in
theorem get_yes (a : DevA) (D : DevS) (l : Nat) (w : World) (h : DevIs w a D) (hl : l < D.n) (ho : D.off = false) :
    Calls Tryz.prog 55 #[.pointer (some ⟨a.bd, 0, none⟩), .int .i64 (l : Int)] w fun e w' => e = .returned (.tuple #[.string ⟨(getT D l).toArray⟩, .int .i64 0]) ∧ Gr [] w w' := by
  have hl2 : l < 8192 := by have := h.ok.hi; omega
  have HH := Lib.hid (has_any a D (l : Int) w h)
  rw [show isLine D (l : Int) = true by unfold isLine; rw [decide_eq_true_eq]; omega] at HH
  obtain ⟨F, hF⟩ : ∃ F : Nat → Nat, ∀ k, F k = loadV D (8 * l + k) := ⟨fun k => loadV D (8 * l + k), fun _ => rfl⟩
  have HFB := Lib.hid (show ∀ k, F k < 18446744073709551616 from fun k => by rw [hF]; exact loadV_lt h.ok _)
  have HL := Lib.hid (show ∀ W, Gr [] w W → ∀ k : Nat, k < 8 → Calls Tryz.prog 106 #[.pointer (some ⟨a.bd, 0, none⟩), .int .i64 ((8 * l + k : Nat) : Int)] W fun e w' => e = .returned (.tuple #[.int .u64 (F k : Int), .int .i64 0]) ∧ Gr [] W w' from fun W g k hk => by rw [hF]; exact load_ok a D (8 * l + k) W (h.gr0 g) ho (by omega))
  have HT := Lib.hid (show getT D l = catL [F 0, F 1, F 2, F 3, F 4, F 5, F 6, F 7] by unfold getT; rw [hF, hF, hF, hF, hF, hF, hF, hF]; rfl)
  clear h hl ho hF
  go_enter Tryz.func55, Tryz.ntmps55
  go_wp2_with fail
  refine HH.out.mono ?_
  rintro e w' ⟨rfl, rfl⟩
  obtain ⟨B, hB⟩ : ∃ B : Nat, B = 8 * l := ⟨_, rfl⟩
  have hB2 : (l : Int) * 8 = (B : Int) := by omega
  have hB3 : B < 65536 := by omega
  rw [← hB] at HL
  clear hB
  go_wp2_with fail
  refine (HL.out _ (Gr.refl _ _) 0 (by omega)).mono ?_
  rintro e w1 ⟨rfl, g1⟩
  go_wp2_with fail
  have e0 : getR F 0 = #[Value.int .u64 0, Value.int .u64 0, Value.int .u64 0, Value.int .u64 0, Value.int .u64 0, Value.int .u64 0, Value.int .u64 0, Value.int .u64 0] := by kernel_rfl
  have HLT := Lib.hid (Holds.new w1 #[Value.int .u64 0, Value.int .u64 0, Value.int .u64 0, Value.int .u64 0, Value.int .u64 0, Value.int .u64 0, Value.int .u64 0, Value.int .u64 0] 105).lt
  have HX := Lib.hid (show Holds (w1.alloc (Obj.cells #[Value.int .u64 0, Value.int .u64 0, Value.int .u64 0, Value.int .u64 0, Value.int .u64 0, Value.int .u64 0, Value.int .u64 0, Value.int .u64 0] 105)) w1.heap.size (getR F 0) 105 ∧ Gr [] w (w1.alloc (Obj.cells #[Value.int .u64 0, Value.int .u64 0, Value.int .u64 0, Value.int .u64 0, Value.int .u64 0, Value.int .u64 0, Value.int .u64 0, Value.int .u64 0] 105)) by rw [← e0]; exact ⟨Holds.new w1 _ _, g1.alloc _⟩)
  have HS := Lib.hid g1.size
  clear g1 e0
  generalize w1.alloc (Obj.cells #[Value.int .u64 0, Value.int .u64 0, Value.int .u64 0, Value.int .u64 0, Value.int .u64 0, Value.int .u64 0, Value.int .u64 0, Value.int .u64 0] 105) = wa at *
  generalize w1.heap.size = b9 at *
  go_loopw [27] (fun z wr => ∃ k : Nat, k ≤ 8 ∧ z = .int .i64 (k : Int) ∧ Holds wr b9 (getR F k) 105 ∧ Gr [] w wr) (fun z _ => 8 - (intOf z).toNat)
  case atStart => exact ⟨0, by omega, rfl, HX.out.1, HX.out.2⟩
  case round =>
    clear HX
    obtain ⟨k, hk, rfl, X, g⟩ := hrel
    by_cases hlt : k < 8
    · have hd : decide ((k : Int) < 8) = true := by simp; omega
      have HLk := Lib.hid (HL.out wr g k hlt)
      obtain ⟨q, hq⟩ : ∃ q : Nat, q = B + k := ⟨_, rfl⟩
      have hq2 : (B : Int) + (k : Int) = (q : Int) := by omega
      rw [← hq] at HLk
      have HX := Lib.hid (And.intro X g)
      clear X g hq
      go_wp2_with fail
      refine HLk.out.mono ?_
      rintro e w3 ⟨rfl, g3⟩
      have X3 := HX.out.1.gr0 g3
      have c0 : w3.cell? ⟨b9, k, none⟩ = some (.int .u64 0) := by rw [X3.cell]; unfold getR; rw [rowOf_get _ _ _ hlt, if_neg (by omega)]; rfl
      have f0 : w3.frozen? ⟨b9, k, none⟩ = false := X3.frozen k
      have HN := Lib.hid (And.intro (show Holds (w3.setCell ⟨b9, k, none⟩ (.int .u64 (F k : Int))) b9 (getR F (k + 1)) 105 by rw [← getR_next]; exact X3.set k _) ((HX.out.2.trans g3).setCell (p := ⟨b9, k, none⟩) (.inr HS.out) (.int .u64 (F k : Int))))
      clear X3 g3 HLk
      generalize F k = v at *
      go_wp2_with fail
      go_roundw
      case rel => exact ⟨k + 1, by omega, by go_num, HN.out.1, HN.out.2⟩
      case measure => simp [intOf]; omega
    · obtain rfl : k = 8 := by omega
      have HR := Lib.hid (show wr.rangeAt b9 0 (getR F 8).toList from fun j v hv => by rw [Nat.zero_add, X.cell, ← Array.getElem?_toList]; exact hv)
      have e8 : getR F 8 = #[Value.int .u64 (F 0 : Int), Value.int .u64 (F 1 : Int), Value.int .u64 (F 2 : Int), Value.int .u64 (F 3 : Int), Value.int .u64 (F 4 : Int), Value.int .u64 (F 5 : Int), Value.int .u64 (F 6 : Int), Value.int .u64 (F 7 : Int)] := by kernel_rfl
      have HE8 := Lib.hid e8
      have HG := Lib.hid g
      have HTX := Lib.hid (text_any (F 0) (F 1) (F 2) (F 3) (F 4) (F 5) (F 6) (F 7) (fun n hn => by
        simp only [List.mem_cons, List.not_mem_nil, or_false] at hn
        rcases hn with rfl | rfl | rfl | rfl | rfl | rfl | rfl | rfl <;> exact HFB.out _) wr)
      clear X g e8
      rw [show ((8 : Nat) : Int) = 8 from rfl]
      go_wp2_with (refine wpList_load_mid rfl 105 _ rfl b9 0 rfl (getR F 8).toList _ HR.out Tryz.underlying105 rfl (by rw [show (getR F 8).toList.length = 8 by unfold getR rowOf; simp]; exact siz8u) ?_)
      rw [HE8.out]
      refine HTX.out.mono ?_
      rintro e w4 ⟨rfl, hb4⟩
      have HG4 := Lib.hid (HG.out.nextB hb4)
      clear hb4
      go_wp2_with fail
      go_ret2
      rw [HT.out]
      exact ⟨rfl, HG4.out⟩

end Go.Proofs.YtjbhallhmnahbaaGreat

/-
  Layer 5: a bank in memory; Lines, Left, Where, Read.
-/
namespace Go.Proofs.YtjbhallhmnahbaaGreat
open Go.RowKit

/-- A bank: how many spares are used, which stands for a line. -/
structure BkS where
  used : Nat
  wh : Int → Option Nat
structure BkA where
  b : Nat
  bm : Nat
def BkA.all (q : BkA) : List Nat := [q.b, q.bm]
structure BkIs (w : World) (q : BkA) (a : DevA) (p : PlanZ) (B : BkS) (m : Nat) : Prop where
  head : Holds w q.b #[.pointer (some ⟨a.bd, 0, none⟩), .int .i64 p.a, .int .i64 p.l, .int .i64 p.s, .int .i64 (B.used : Int), .map (some q.bm)] 216
  map : MapZ niE 3 w q.bm m B.wh
  ok : okZ p = true
  us : (B.used : Int) ≤ p.s
  rg : ∀ x k, B.wh x = some k → ((k : Nat) : Int) < p.s
  ne : q.b ≠ q.bm
  sep : ∀ b ∈ q.all, b ∉ a.all
section
variable {w w' : World} {q : BkA} {a : DevA} {p : PlanZ} {B : BkS} {m : Nat}
theorem BkIs.gr {bs : List Nat} (h : BkIs w q a p B m) (g : Gr bs w w') (hn : ∀ b ∈ q.all, b ∉ bs) : BkIs w' q a p B m :=
  ⟨h.head.gr g (hn _ (by simp [BkA.all])), h.map.gr g (hn _ (by simp [BkA.all])), h.ok, h.us, h.rg, h.ne, h.sep⟩
theorem BkIs.gr0 (h : BkIs w q a p B m) (g : Gr [] w w') : BkIs w' q a p B m := h.gr g (by simp)
theorem BkIs.grD (h : BkIs w q a p B m) (g : Gr a.all w w') : BkIs w' q a p B m := h.gr g h.sep
theorem BkIs.lt (h : BkIs w q a p B m) : ∀ b ∈ q.all, b < w.heap.size := by
  intro b hb
  simp only [BkA.all, List.mem_cons, List.not_mem_nil, or_false] at hb
  rcases hb with rfl | rfl
  · exact h.head.lt
  · exact h.map.lt
theorem BkIs.c0 (h : BkIs w q a p B m) : w.cell? ⟨q.b, 0, none⟩ = some (.pointer (some ⟨a.bd, 0, none⟩)) := h.head.cell 0
theorem BkIs.c1 (h : BkIs w q a p B m) : w.cell? ⟨q.b, 1, none⟩ = some (.int .i64 p.a) := h.head.cell 1
theorem BkIs.c2 (h : BkIs w q a p B m) : w.cell? ⟨q.b, 2, none⟩ = some (.int .i64 p.l) := h.head.cell 2
theorem BkIs.c3 (h : BkIs w q a p B m) : w.cell? ⟨q.b, 3, none⟩ = some (.int .i64 p.s) := h.head.cell 3
theorem BkIs.c4 (h : BkIs w q a p B m) : w.cell? ⟨q.b, 4, none⟩ = some (.int .i64 (B.used : Int)) := h.head.cell 4
theorem BkIs.c5 (h : BkIs w q a p B m) : w.cell? ⟨q.b, 5, none⟩ = some (.map (some q.bm)) := h.head.cell 5
end
/-- The places of a plan's lines and spares. -/
def lineP (p : PlanZ) (i : Int) : Int := p.a + tabZ p + i
def spareP (p : PlanZ) (k : Int) : Int := p.a + tabZ p + p.l + k
def placeP (p : PlanZ) (B : BkS) (i : Int) : Int := match B.wh i with | some k => spareP p k | none => lineP p i
def inP (p : PlanZ) (i : Int) : Prop := 0 ≤ i ∧ i < p.l
instance (p : PlanZ) (i : Int) : Decidable (inP p i) := by unfold inP; infer_instance
section
variable {w : World} {q : BkA} {a : DevA} {p : PlanZ} {B : BkS} {m : Nat}
theorem left_at (h : BkIs w q a p B m) : Calls Tryz.prog 141 #[.pointer (some ⟨q.b, 0, none⟩)] w fun e w' => e = .returned (.int .i64 (p.s - (B.used : Int))) ∧ Gr [] w w' := by
  have c3 := h.c3
  have c4 := h.c4
  obtain ⟨h1, h2, h3, h4, h5, h6⟩ := (okZ_iff _).1 h.ok
  have hu := h.us
  have i1 : IntKind.i64.wrap (p.s - (B.used : Int)) = p.s - (B.used : Int) := IntWalk.i64_in _ (by omega)
  clear h h1 h2 h3 h4 h5 h6 hu
  go_enter Tryz.func141, Tryz.ntmps141
  go_wp2_with fail
  go_quiet (fail)
  go_wp2_with fail
  go_ret
  exact ⟨rfl, (Gr.refl [] w).drewN _⟩
theorem where_out (i : Int) (h : BkIs w q a p B m) (hi : ¬ inP p i) : Calls Tryz.prog 134 #[.pointer (some ⟨q.b, 0, none⟩), .int .i64 i] w fun e w' => e = .returned (.tuple #[.int .i64 0, .int .i64 3]) ∧ w' = w := by
  have c2 := h.c2
  clear h
  by_cases h0 : i < 0
  · clear hi
    go_enter Tryz.func134, Tryz.ntmps134
    go_wp2_with fail
    go_ret2
    exact ⟨rfl, rfl⟩
  · have h1 : p.l ≤ i := by unfold inP at hi; omega
    clear hi
    go_enter Tryz.func134, Tryz.ntmps134
    go_wp2_with fail
    go_ret2
    exact ⟨rfl, rfl⟩
set_option maxHeartbeats 2000000 in
set_option maxRecDepth 100000 in
theorem where_in (i : Int) (h : BkIs w q a p B m) (hi : inP p i) : Calls Tryz.prog 134 #[.pointer (some ⟨q.b, 0, none⟩), .int .i64 i] w fun e w' => e = .returned (.tuple #[.int .i64 (placeP p B i), .int .i64 0]) ∧ Gr [] w w' := by
  obtain ⟨h1, h2, h3, h4, h5, h6⟩ := (okZ_iff _).1 h.ok
  have c1 := h.c1
  have c2 := h.c2
  have c3 := h.c3
  have c5 := h.c5
  obtain ⟨i0, i1⟩ : 0 ≤ i ∧ i < p.l := hi
  have hwf : WfZ i := wfZ (by omega) (by omega)
  have HLK := Lib.hid (h.map.look_ok Tryz.underlying3 (show Tryz.prog.underlying 214 = some (.map 3 3) from Tryz.underlying214) hwf)
  cases e : B.wh i with
  | some k =>
    have hk := h.rg i k e
    have HP := Lib.hid (show placeP p B i = spareP p k by unfold placeP; rw [e])
    have HS := Lib.hid (show Calls Tryz.prog 177 #[.agg #[.int .i64 p.a, .int .i64 p.l, .int .i64 p.s], .int .i64 (k : Int)] w _ from spareat_any p h.ok (k : Int) (by omega) (by omega) w)
    have hlk := HLK.out
    rw [e] at hlk
    replace hlk : _ = Result.ok (Value.tuple #[.int .i64 (k : Int), .bool true]) w := hlk
    clear h HLK e hwf hk
    go_enter Tryz.func134, Tryz.ntmps134
    go_wp2_with fail
    refine HS.out.mono ?_
    rintro e w2 ⟨rfl, hb⟩
    have HG := Lib.hid (Gr.ofBelow (cs := []) hb)
    clear hb
    go_wp2_with fail
    go_ret2
    exact ⟨by rw [HP.out]; rfl, HG.out⟩
  | none =>
    have HP := Lib.hid (show placeP p B i = lineP p i by unfold placeP; rw [e])
    have HS := Lib.hid (show Calls Tryz.prog 178 #[.agg #[.int .i64 p.a, .int .i64 p.l, .int .i64 p.s], .int .i64 i] w _ from lineat_any p h.ok i (by omega) (by omega) w)
    have hlk := HLK.out
    rw [e] at hlk
    replace hlk : _ = Result.ok (Value.tuple #[.int .i64 0, .bool false]) w := hlk
    clear h HLK e hwf
    go_enter Tryz.func134, Tryz.ntmps134
    go_wp2_with fail
    refine HS.out.mono ?_
    rintro e w2 ⟨rfl, hb⟩
    have HG := Lib.hid (Gr.ofBelow (cs := []) hb)
    clear hb
    go_wp2_with fail
    go_ret2
    exact ⟨by rw [HP.out]; rfl, HG.out⟩
/-- Where a line's place is on the device. -/
theorem place_in {n : Nat} (h : BkIs w q a p B m) (hn : p.a + sizeZ p ≤ (n : Int)) {i : Int} (hi : inP p i) : ∃ l : Nat, placeP p B i = (l : Int) ∧ l < n := by
  obtain ⟨h1, h2, h3, h4, h5, h6⟩ := (okZ_iff _).1 h.ok
  obtain ⟨i0, i1⟩ : 0 ≤ i ∧ i < p.l := hi
  have hs : sizeZ p = tabZ p + p.l + p.s := by unfold sizeZ; rw [if_pos h.ok]
  have ht : 0 ≤ tabZ p := by unfold tabZ; omega
  unfold placeP
  cases e : B.wh i with
  | some k =>
    have := h.rg i k e
    exact ⟨(spareP p k).toNat, by simp only; unfold spareP; omega, by unfold spareP; omega⟩
  | none => exact ⟨(lineP p i).toNat, by simp only; unfold lineP; omega, by unfold lineP; omega⟩
def readR (D : DevS) (p : PlanZ) (B : BkS) (i : Int) : ByteArray × Int := if inP p i then (if D.off then (⟨#[]⟩, 6) else (⟨(getT D (placeP p B i).toNat).toArray⟩, 0)) else (⟨#[]⟩, 3)
theorem read_any {D : DevS} (i : Int) (h : BkIs w q a p B m) (hd : DevIs w a D) (hn : p.a + sizeZ p ≤ (D.n : Int)) :
    Calls Tryz.prog 108 #[.pointer (some ⟨q.b, 0, none⟩), .int .i64 i] w fun e w' => e = .returned (.tuple #[.string (readR D p B i).1, .int .i64 (readR D p B i).2]) ∧ Gr [] w w' := by
  have c0 := h.c0
  by_cases hi : inP p i
  · have HW := Lib.hid (where_in i h hi)
    obtain ⟨l, hl, hln⟩ := place_in h hn hi
    rw [hl] at HW
    have HB := Lib.hid h
    by_cases ho : D.off = true
    · have hr : readR D p B i = (⟨#[]⟩, 6) := by unfold readR; rw [if_pos hi, if_pos ho]
      rw [hr]
      have he : reachE D (isLine D (l : Int)) = 6 := by unfold reachE; rw [if_pos ho]
      have HGt := Lib.hid (fun W (hd : DevIs W a D) => get_err a D (l : Int) W hd (by rw [he]; decide))
      rw [he] at HGt
      have HD := Lib.hid hd
      clear hr h hd hn hi hl ho he
      go_enter Tryz.func108, Tryz.ntmps108
      go_wp2_with fail
      refine HW.out.mono ?_
      rintro e w2 ⟨rfl, g2⟩
      have HG := Lib.hid g2
      have c0 := (HB.out.gr0 g2).c0
      clear g2
      go_wp2_with fail
      refine (HGt.out _ (HD.out.gr0 HG.out)).mono ?_
      rintro e w3 ⟨rfl, rfl⟩
      go_wp2_with fail
      go_ret2
      exact ⟨rfl, HG.out⟩
    · have ho : D.off = false := by simpa using ho
      have hr : readR D p B i = (⟨(getT D l).toArray⟩, 0) := by unfold readR; rw [if_pos hi, ho, hl]; simp
      rw [hr]
      have HGt := Lib.hid (fun W (hd : DevIs W a D) => get_yes a D l W hd hln ho)
      have HD := Lib.hid hd
      clear hr h hd hn hi hl ho hln
      go_enter Tryz.func108, Tryz.ntmps108
      go_wp2_with fail
      refine HW.out.mono ?_
      rintro e w2 ⟨rfl, g2⟩
      have HG := Lib.hid g2
      have c0 := (HB.out.gr0 g2).c0
      clear g2
      go_wp2_with fail
      refine (HGt.out _ (HD.out.gr0 HG.out)).mono ?_
      rintro e w3 ⟨rfl, g3⟩
      have HG3 := Lib.hid g3
      clear g3
      go_wp2_with fail
      go_ret2
      exact ⟨rfl, HG.out.next0 HG3.out⟩
  · have hr : readR D p B i = (⟨#[]⟩, 3) := by unfold readR; rw [if_neg hi]
    rw [hr]
    have HW := Lib.hid (where_out i h hi)
    clear h hd hn hr hi
    go_enter Tryz.func108, Tryz.ntmps108
    go_wp2_with fail
    refine HW.out.mono ?_
    rintro e w2 ⟨rfl, hw⟩
    rw [hw]
    go_wp2_with fail
    go_ret2
    exact ⟨rfl, Gr.refl _ _⟩
end
end Go.Proofs.YtjbhallhmnahbaaGreat

/-
  Plain lemmas on the two checksums, without any program: the register as a bit vector, and as a list of bits.
-/
namespace Go.Proofs.YtjbhallhmnahbaaGreat

/-! ### The registers, one bit out and eight -/
def s16 (x : BitVec 16) : BitVec 16 := (x <<< 1) ^^^ (if x.msb then 0x1021#16 else 0#16)
def s32 (x : BitVec 32) : BitVec 32 := (x >>> 1) ^^^ (if x.getLsbD 0 then 0x82F63B78#32 else 0#32)
def b16 (x : BitVec 16) (b : UInt8) : BitVec 16 := s16 (s16 (s16 (s16 (s16 (s16 (s16 (s16 (x ^^^ (BitVec.ofNat 16 b.toNat <<< 8)))))))))
def b32 (x : BitVec 32) (b : UInt8) : BitVec 32 := s32 (s32 (s32 (s32 (s32 (s32 (s32 (s32 (x ^^^ BitVec.ofNat 32 b.toNat))))))))
def c16 (l : List UInt8) (x : BitVec 16) : BitVec 16 := l.foldl b16 x
def c32 (l : List UInt8) (x : BitVec 32) : BitVec 32 := l.foldl b32 x
def sum16 (l : List UInt8) : BitVec 16 := c16 l 0xFFFF#16
def sum32 (l : List UInt8) : BitVec 32 := ~~~ (c32 l 0xFFFFFFFF#32)

/-! ### Linear -/
/-! ### One to one -/
end Go.Proofs.YtjbhallhmnahbaaGreat
