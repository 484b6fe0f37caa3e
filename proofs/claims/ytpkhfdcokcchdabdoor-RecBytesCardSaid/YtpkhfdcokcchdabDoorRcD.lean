/-
  Layer 12: Decode.
-/
import Derived.Test.YtpkhfdcokcchdabDoorRcC
import Derived.Deep.RegionHeld3
namespace Go.Proofs.YtpkhfdcokcchdabDoor
open Go.RowKit

def badV (e : Int) : Value := .tuple #[.agg #[.int .u32 0, .int .u32 0, .int .u32 0], .agg #[.int .u8 0, .string ⟨#[]⟩], .int .i64 e]
/-- What Decode answers. -/
def decV (S : List UInt8) : Value :=
  if formOk S = true then (if sumOk S = true then .tuple #[.agg #[.int .u32 (dE S : Nat), .int .u32 (dV S : Nat), .int .u32 (dQ S : Nat)], .agg #[.int .u8 (dKind S : Nat), .string ⟨(dBody S (dLen S)).toArray⟩], .int .i64 0] else badV 5) else badV 4
theorem decV_form {S : List UInt8} (h : formOk S = false) : decV S = badV 4 := by unfold decV; rw [h]; rfl
theorem form_short {S : List UInt8} (h : S.length < 24) : formOk S = false := by
  unfold formOk
  rw [decide_eq_false (by omega), Bool.false_and]
/-- The results' cells. -/
structure DBox (w0 w : World) (b : Nat) : Prop where
  s : Holds w b #[.int .u32 0, .int .u32 0, .int .u32 0] 30
  r : Holds w (b + 1) #[.int .u8 0, .string ⟨#[]⟩] 25
  g : Gr [] w0 w
  lo : w0.heap.size ≤ b
theorem DBox.gr0 {w0 w w' : World} {b : Nat} (h : DBox w0 w b) (g : Gr [] w w') : DBox w0 w' b := ⟨h.s.gr0 g, h.r.gr0 g, h.g.next0 g, h.lo⟩

def headK (S : List UInt8) : Nat → Bool
  | 0 => true
  | k + 1 => headK S k && unW S (8 * k) (markN k) 7
theorem headK_three (S : List UInt8) : headK S 3 = headOk S := by
  unfold headOk headK headK headK headK
  rw [Bool.true_and, Bool.and_assoc]
  rfl
theorem headK_false {S : List UInt8} {k : Nat} (hk : k < 3) (h : unW S (8 * k) (markN k) 7 = false) : formOk S = false := by
  have h3 : headOk S = false := by
    rw [← headK_three]
    obtain rfl | rfl | rfl : k = 0 ∨ k = 1 ∨ k = 2 := by omega
    · unfold headK headK headK headK; rw [h]; simp
    · unfold headK headK headK headK; rw [h]; simp
    · unfold headK headK headK headK; rw [h]; simp
  unfold formOk
  rw [h3]
  simp
theorem form_zero {S : List UInt8} (h : zB ((decHead S).drop 15) = false) : formOk S = false := by
  unfold formOk; rw [h]; simp
theorem form_kind {S : List UInt8} (h : dKind S = 0) : formOk S = false := by
  unfold formOk; rw [h]; simp
theorem form_long {S : List UInt8} (h : 1024 < dLen S) : formOk S = false := by
  unfold formOk; rw [decide_eq_false (show ¬ dLen S ≤ 1024 by omega)]; simp
theorem form_size {S : List UInt8} (h : S.length < sizeN (dLen S)) : formOk S = false := by
  unfold formOk; rw [decide_eq_false (show ¬ sizeN (dLen S) ≤ S.length by omega)]; simp
theorem form_words {S : List UInt8} (h : wordsOk S (dLen S) (nW (dLen S)) = false) : formOk S = false := by
  unfold formOk; rw [h]; simp
theorem form_sum {S : List UInt8} (h : unW S (sizeN (dLen S) - 8) 48 4 = false) : formOk S = false := by
  unfold formOk; rw [h]; simp
theorem form_yes {S : List UInt8} (h1 : 24 ≤ S.length) (h2 : headK S 3 = true) (h3 : zB ((decHead S).drop 15) = true) (h4 : dKind S ≠ 0) (h5 : dLen S ≤ 1024) (h6 : sizeN (dLen S) ≤ S.length) (h7 : wordsOk S (dLen S) (nW (dLen S)) = true) (h8 : unW S (sizeN (dLen S) - 8) 48 4 = true) : formOk S = true := by
  rw [headK_three] at h2
  unfold formOk
  rw [h2, h3, h7, h8, decide_eq_true h1, decide_eq_true h4, decide_eq_true h5, decide_eq_true h6]
  rfl
theorem decV_sum {S : List UInt8} (h : formOk S = true) (h2 : sumOk S = false) : decV S = badV 5 := by unfold decV; rw [h, h2]; rfl
theorem decV_yes {S : List UInt8} (h : formOk S = true) (h2 : sumOk S = true) : decV S = .tuple #[.agg #[.int .u32 (dE S : Nat), .int .u32 (dV S : Nat), .int .u32 (dQ S : Nat)], .agg #[.int .u8 (dKind S : Nat), .string ⟨(dBody S (dLen S)).toArray⟩], .int .i64 0] := by unfold decV; rw [h, h2]; rfl
theorem decHead_step (S : List UInt8) (k : Nat) (hk : k < 3) (h : 24 ≤ S.length) : (decHead S).take (7 * (k + 1)) = (decHead S).take (7 * k) ++ (S.drop (8 * k)).take 7 := by
  have hl := decHead_len S h
  have l1 : ((decHead S).take (7 * k)).length = 7 * k := by rw [List.length_take, hl]; omega
  apply ext_bt
  · simp [hl]; omega
  · intro i hi
    rw [List.length_take, hl] at hi
    rw [bt_append, l1, bt_take, bt_take, bt_take, bt_drop, if_pos (by omega), decHead_bt S h i (by omega)]
    by_cases c : i < 7 * k
    · rw [if_pos c, if_pos c]
    · rw [if_neg c, if_pos (by omega)]; congr 1; omega
/-- The rest's words are the bytes' own. -/
theorem words_rest (S : List UInt8) (n k z : Nat) (hz : 24 + 8 * k ≤ z) (hS : z ≤ S.length) : wR ((S.drop 24).take (z - 24)) n k = wordsOk S n k := by
  induction k with
  | zero => rfl
  | succ k ih =>
    unfold wR wordsOk
    rw [ih (by omega)]
    congr 1
    rw [Bool.eq_iff_iff, unW_iff _ _ _ _ (by simp; omega) (by omega), unW_iff _ _ _ _ (by omega) (by omega)]
    have e : ∀ r, r < 8 → bt ((S.drop 24).take (z - 24)) (8 * k + r) = bt S (24 + 8 * k + r) := fun r hr => by
      rw [bt_take, if_pos (by omega), bt_drop]; congr 1; omega
    rw [e 7 (by omega)]
    constructor
    · rintro ⟨a, b⟩; exact ⟨a, fun i h1 h2 => by rw [← e i (by omega)]; exact b i h1 h2⟩
    · rintro ⟨a, b⟩; exact ⟨a, fun i h1 h2 => by rw [e i (by omega)]; exact b i h1 h2⟩
theorem body_rest (S : List UInt8) (n z : Nat) (hz : 24 + 8 * nW n ≤ z) : bodyR ((S.drop 24).take (z - 24)) n = dBody S n := by
  unfold bodyR dBody
  apply List.map_congr_left
  intro i hi
  rw [List.mem_range] at hi
  have : nW n = (n + 6) / 7 := rfl
  rw [bt_take, if_pos (by omega), bt_drop]
  congr 1; omega
theorem unword_seven (s : ByteArray) (m : UInt8) (z : Int) (w : World) (hz : z = (m.toNat : Int)) (h8 : 8 ≤ s.size) (hs : s.size ≤ maxLen) :
    Calls Tryd.prog 27 #[.string s, .int .u8 z, .int .i64 7] w fun e w' => e = .returned (.tuple #[.string (s.extract 0 7), .bool (unW s.data.toList 0 m 7)]) ∧ ∃ n, w' = w.drewN n := unword_lit s m z 7 w hz h8 (by omega) hs
theorem zero_is (s : ByteArray) (c : Bool) (w : World) (hs : s.size ≤ maxLen) (hc : c = zB s.data.toList) :
    Calls Tryd.prog 29 #[.string s] w fun e w' => e = .returned (.bool c) ∧ ∃ n, w' = w.drewN n := by
  subst hc
  exact zero_any s w hs
theorem size_is (n z : Nat) (w : World) (h : n ≤ 1000000) (hz : z = sizeN n) :
    Calls Tryd.prog 26 #[.int .i64 n] w fun e w' => e = .returned (.int .i64 z) ∧ w = w' := by
  subst hz
  exact size_any n w h
theorem body_no (r : ByteArray) (n : Nat) {R : List UInt8} (w : World) (hr : r.size = 8 * nW n + 8) (hn : n ≤ 1024) (hR : r.data.toList = R) (h : wR R n (nW n) = false) :
    Calls Tryd.prog 30 #[.string r, .int .i64 n] w fun e w' => e = .returned (.tuple #[.string ⟨#[]⟩, .bool false]) ∧ Gr [] w w' := by
  have q := bodyOf_any r n w hn hr
  unfold bodyV at q
  rw [hR, h] at q
  exact q
theorem body_yes (r : ByteArray) (n : Nat) {R : List UInt8} (Y : ByteArray) (w : World) (hr : r.size = 8 * nW n + 8) (hn : n ≤ 1024) (hR : r.data.toList = R) (h : wR R n (nW n) = true) (hY : Y = ⟨(bodyR R n).toArray⟩) :
    Calls Tryd.prog 30 #[.string r, .int .i64 n] w fun e w' => e = .returned (.tuple #[.string Y, .bool true]) ∧ Gr [] w w' := by
  have q := bodyOf_any r n w hn hr
  unfold bodyV at q
  rw [hR, h, ← hY] at q
  exact q
theorem unword_sum (s Z : ByteArray) (g : Bool) (w : World) (hZ : Z = s.extract 0 4) (h8 : 8 ≤ s.size) (hs : s.size ≤ maxLen) (hg : unW s.data.toList 0 48 4 = g) :
    Calls Tryd.prog 27 #[.string s, .int .u8 48, .int .i64 4] w fun e w' => e = .returned (.tuple #[.string Z, .bool g]) ∧ ∃ n, w' = w.drewN n := by
  subst hg hZ
  exact unword_lit s 48 48 4 w rfl h8 (by omega) hs
theorem sum_is (x : ByteArray) (v : Nat) (w : World) (hx : x.size ≤ maxLen) (hv : v = (sum32 x.data.toList).toNat) :
    Calls Tryd.prog 21 #[.string x] w fun e w' => e = .returned (.int .u32 v) ∧ w' = w := by
  subst hv
  exact (sum32_any x w hx).mono fun _ _ ⟨h1, h2⟩ => ⟨h1, h2.symm⟩
theorem get_is (x : ByteArray) (n : Nat) (w : World) (hx : x.size ≤ 8) (hn : n = getL x.data.toList) :
    Calls Tryd.prog 28 #[.string x] w fun e w' => e = .returned (.int .u64 n) ∧ w' = w := by
  subst hn
  have h := get_any x w (by unfold maxLen; omega)
  rw [List.take_of_length_le (by rw [← size_list]; exact hx)] at h
  exact h.mono fun _ _ ⟨h1, h2⟩ => ⟨h1, h2.symm⟩

set_option maxHeartbeats 16000000 in
set_option maxRecDepth 100000 in
theorem decode_any (s : ByteArray) (w : World) (hs : s.size ≤ 100000) :
    Calls Tryd.prog 13 #[.string s] w fun r w' => r = .returned (decV s.data.toList) ∧ Gr [] w w' := by
  obtain ⟨b, hb⟩ : ∃ b, w.heap.size = b := ⟨_, rfl⟩
  have D0 : DBox w ((w.alloc (Obj.cells #[.int .u32 0, .int .u32 0, .int .u32 0] 30)).alloc (Obj.cells #[.int .u8 0, .string ⟨#[]⟩] 25)) b := by
    subst hb
    refine ⟨(Holds.new w _ _).alloc _, ?_, ((Gr.refl [] w).alloc _).alloc _, Nat.le_refl _⟩
    have := Holds.new (w.alloc (Obj.cells #[.int .u32 0, .int .u32 0, .int .u32 0] 30)) #[.int .u8 0, .string ⟨#[]⟩] 25
    rwa [World.size_alloc] at this
  have HD0 := Lib.hid D0
  have HBB := Lib.hid hb
  obtain ⟨S, hS⟩ : ∃ S, S = s.data.toList := ⟨_, rfl⟩
  have hSl : S.length = s.size := by rw [hS, size_list]
  rw [← hS]
  have HS := Lib.hid hS
  have HSL := Lib.hid hSl
  clear D0 hb hS hSl
  by_cases h24 : s.size < 24
  · go_enter Tryd.func13, Tryd.ntmps13
    go_wp2_with fail
    refine bodyPost_ret (v := badV 4) (by simp [results, Tryd.results13, go_sem, badV]) rfl ⟨by rw [decV_form (form_short (by rw [HSL.out]; exact h24))], ((Gr.refl [] w).alloc _).alloc _⟩
  · go_enter Tryd.func13, Tryd.ntmps13
    go_wp2_with fail
    rw [HBB.out]
    generalize (w.alloc (Obj.cells #[.int .u32 0, .int .u32 0, .int .u32 0] 30)).alloc (Obj.cells #[.int .u8 0, .string ⟨#[]⟩] 25) = wa at *
    go_loopw [5, 22] (fun h i wr => ∃ (k : Nat) (H : ByteArray), k ≤ 3 ∧ h = .string H ∧ i = .int .i64 k ∧ Hid (H.data.toList = (decHead S).take (7 * k)) ∧ Hid (headK S k = true) ∧ DBox w wr b) (fun _ i _ => 3 - (intOf i).toNat)
    case atStart => exact ⟨0, ⟨#[]⟩, by omega, rfl, rfl, Lib.hid rfl, Lib.hid rfl, HD0.out⟩
    case round =>
      clear HD0
      obtain ⟨k, H, hk3, rfl, rfl, hH, hm, D⟩ := hrel
      have HD := Lib.hid D
      clear D
      have hHs : H.size = 7 * k := by rw [size_list, hH.out, List.length_take, decHead_len S (by rw [HSL.out]; omega)]; omega
      have HHS := Lib.hid hHs
      obtain rfl | rfl | rfl | rfl : k = 0 ∨ k = 1 ∨ k = 2 ∨ k = 3 := by omega
      · have hx8 : 8 ≤ s.size := by first | omega | (rw [ByteArray.size_extract]; omega)
        have HW := Lib.hid (fun W => unword_seven s 17 17 W rfl hx8 (by unfold maxLen; first | omega | (rw [ByteArray.size_extract]; omega)))
        have hxl0 : s.data.toList = S.drop (8 * 0) := by first | exact HS.out.symm | (rw [ext_toList, ← HS.out, List.take_of_length_le (by rw [List.length_drop, HSL.out]; omega)])
        have hux : unW s.data.toList 0 17 7 = unW S (8 * 0) (markN 0) 7 := by
          rw [hxl0, unW_drop]
          rfl
        have hxl : (s.extract 0 7).data.toList = (S.drop (8 * 0)).take 7 := by rw [extL, hxl0]
        rw [hux] at HW
        have HXL := Lib.hid hxl
        obtain ⟨c, hc⟩ : ∃ c, c = unW S (8 * 0) (markN 0) 7 := ⟨_, rfl⟩
        rw [← hc] at HW
        have HC := Lib.hid hc
        have hxs : (s.extract 0 7).size = 7 := by rw [size_list, hxl, List.length_take, List.length_drop, HSL.out]; omega
        clear hc hx8 hux hxl hxl0
        have l24 : (24 : Int) ≤ (s.size : Int) := by omega
        cases c with
        | false =>
          go_wp2_with fail
          with_reducible refine (HW.out _).mono ?_
          rintro r w5 ⟨rfl, nq, rfl⟩
          have HD5 := Lib.hid (HD.out.gr0 ((Gr.refl [] wr).drewN nq))
          generalize wr.drewN nq = w5 at *
          have c0 := HD5.out.s.cell 0
          have c1 := HD5.out.s.cell 1
          have c2 := HD5.out.s.cell 2
          have r0 := HD5.out.r.cell 0
          have r1 := HD5.out.r.cell 1
          have f0 := HD5.out.s.frozen 0
          have f1 := HD5.out.s.frozen 1
          have f2 := HD5.out.s.frozen 2
          have q0 := HD5.out.r.frozen 0
          have q1 := HD5.out.r.frozen 1
          go_wp2_with fail
          exact bodyPost_ret (v := badV 4) (by simp [results, Tryd.results13, go_sem, badV, *]) rfl ⟨by rw [decV_form (headK_false (k := 0) (by omega) HC.out.symm)], ((((((HD5.out.g).setCell (p := ⟨b, 0, none⟩) (.inr HD5.out.lo) _).setCell (p := ⟨b, 1, none⟩) (.inr HD5.out.lo) _).setCell (p := ⟨b, 2, none⟩) (.inr HD5.out.lo) _).setCell (p := ⟨b + 1, 0, none⟩) (.inr (Nat.le_succ_of_le HD5.out.lo)) _).setCell (p := ⟨b + 1, 1, none⟩) (.inr (Nat.le_succ_of_le HD5.out.lo)) _)⟩
        | true =>
          go_wp2_with fail
          with_reducible refine (HW.out _).mono ?_
          rintro r w5 ⟨rfl, nq, rfl⟩
          have HD5 := Lib.hid (HD.out.gr0 ((Gr.refl [] wr).drewN nq))
          generalize wr.drewN nq = w5 at *
          go_wp2_with fail
          go_roundw
          case rel =>
            refine ⟨1, H ++ s.extract 0 7, by omega, ?_, rfl, Lib.hid ?_, Lib.hid ?_, HD5.out⟩
            · rfl
            · rw [app_toList, hH.out, HXL.out, decHead_step S 0 (by omega) (by rw [HSL.out]; omega)]
            · unfold headK
              rw [hm.out, ← HC.out]
              rfl
          case measure => simp [intOf]
      · have hx8 : 8 ≤ (s.extract 8 s.size).size := by first | omega | (rw [ByteArray.size_extract]; omega)
        have HW := Lib.hid (fun W => unword_seven (s.extract 8 s.size) 18 18 W rfl hx8 (by unfold maxLen; first | omega | (rw [ByteArray.size_extract]; omega)))
        have hxl0 : (s.extract 8 s.size).data.toList = S.drop (8 * 1) := by first | exact HS.out.symm | (rw [ext_toList, ← HS.out, List.take_of_length_le (by rw [List.length_drop, HSL.out]; omega)])
        have hux : unW (s.extract 8 s.size).data.toList 0 18 7 = unW S (8 * 1) (markN 1) 7 := by
          rw [hxl0, unW_drop]
          rfl
        have hxl : ((s.extract 8 s.size).extract 0 7).data.toList = (S.drop (8 * 1)).take 7 := by rw [extL, hxl0]
        rw [hux] at HW
        have HXL := Lib.hid hxl
        obtain ⟨c, hc⟩ : ∃ c, c = unW S (8 * 1) (markN 1) 7 := ⟨_, rfl⟩
        rw [← hc] at HW
        have HC := Lib.hid hc
        have hxs : ((s.extract 8 s.size).extract 0 7).size = 7 := by rw [size_list, hxl, List.length_take, List.length_drop, HSL.out]; omega
        clear hc hx8 hux hxl hxl0
        have l24 : (24 : Int) ≤ (s.size : Int) := by omega
        cases c with
        | false =>
          go_wp2_with fail
          with_reducible refine (HW.out _).mono ?_
          rintro r w5 ⟨rfl, nq, rfl⟩
          have HD5 := Lib.hid (HD.out.gr0 ((Gr.refl [] wr).drewN nq))
          generalize wr.drewN nq = w5 at *
          have c0 := HD5.out.s.cell 0
          have c1 := HD5.out.s.cell 1
          have c2 := HD5.out.s.cell 2
          have r0 := HD5.out.r.cell 0
          have r1 := HD5.out.r.cell 1
          have f0 := HD5.out.s.frozen 0
          have f1 := HD5.out.s.frozen 1
          have f2 := HD5.out.s.frozen 2
          have q0 := HD5.out.r.frozen 0
          have q1 := HD5.out.r.frozen 1
          go_wp2_with fail
          exact bodyPost_ret (v := badV 4) (by simp [results, Tryd.results13, go_sem, badV, *]) rfl ⟨by rw [decV_form (headK_false (k := 1) (by omega) HC.out.symm)], ((((((HD5.out.g).setCell (p := ⟨b, 0, none⟩) (.inr HD5.out.lo) _).setCell (p := ⟨b, 1, none⟩) (.inr HD5.out.lo) _).setCell (p := ⟨b, 2, none⟩) (.inr HD5.out.lo) _).setCell (p := ⟨b + 1, 0, none⟩) (.inr (Nat.le_succ_of_le HD5.out.lo)) _).setCell (p := ⟨b + 1, 1, none⟩) (.inr (Nat.le_succ_of_le HD5.out.lo)) _)⟩
        | true =>
          go_wp2_with fail
          with_reducible refine (HW.out _).mono ?_
          rintro r w5 ⟨rfl, nq, rfl⟩
          have HD5 := Lib.hid (HD.out.gr0 ((Gr.refl [] wr).drewN nq))
          generalize wr.drewN nq = w5 at *
          go_wp2_with fail
          go_roundw
          case rel =>
            refine ⟨2, H ++ (s.extract 8 s.size).extract 0 7, by omega, ?_, rfl, Lib.hid ?_, Lib.hid ?_, HD5.out⟩
            · rfl
            · rw [app_toList, hH.out, HXL.out, decHead_step S 1 (by omega) (by rw [HSL.out]; omega)]
            · unfold headK
              rw [hm.out, ← HC.out]
              rfl
          case measure => simp [intOf]
      · have hx8 : 8 ≤ (s.extract 16 s.size).size := by first | omega | (rw [ByteArray.size_extract]; omega)
        have HW := Lib.hid (fun W => unword_seven (s.extract 16 s.size) 19 19 W rfl hx8 (by unfold maxLen; first | omega | (rw [ByteArray.size_extract]; omega)))
        have hxl0 : (s.extract 16 s.size).data.toList = S.drop (8 * 2) := by first | exact HS.out.symm | (rw [ext_toList, ← HS.out, List.take_of_length_le (by rw [List.length_drop, HSL.out]; omega)])
        have hux : unW (s.extract 16 s.size).data.toList 0 19 7 = unW S (8 * 2) (markN 2) 7 := by
          rw [hxl0, unW_drop]
          rfl
        have hxl : ((s.extract 16 s.size).extract 0 7).data.toList = (S.drop (8 * 2)).take 7 := by rw [extL, hxl0]
        rw [hux] at HW
        have HXL := Lib.hid hxl
        obtain ⟨c, hc⟩ : ∃ c, c = unW S (8 * 2) (markN 2) 7 := ⟨_, rfl⟩
        rw [← hc] at HW
        have HC := Lib.hid hc
        have hxs : ((s.extract 16 s.size).extract 0 7).size = 7 := by rw [size_list, hxl, List.length_take, List.length_drop, HSL.out]; omega
        clear hc hx8 hux hxl hxl0
        have l24 : (24 : Int) ≤ (s.size : Int) := by omega
        cases c with
        | false =>
          go_wp2_with fail
          with_reducible refine (HW.out _).mono ?_
          rintro r w5 ⟨rfl, nq, rfl⟩
          have HD5 := Lib.hid (HD.out.gr0 ((Gr.refl [] wr).drewN nq))
          generalize wr.drewN nq = w5 at *
          have c0 := HD5.out.s.cell 0
          have c1 := HD5.out.s.cell 1
          have c2 := HD5.out.s.cell 2
          have r0 := HD5.out.r.cell 0
          have r1 := HD5.out.r.cell 1
          have f0 := HD5.out.s.frozen 0
          have f1 := HD5.out.s.frozen 1
          have f2 := HD5.out.s.frozen 2
          have q0 := HD5.out.r.frozen 0
          have q1 := HD5.out.r.frozen 1
          go_wp2_with fail
          exact bodyPost_ret (v := badV 4) (by simp [results, Tryd.results13, go_sem, badV, *]) rfl ⟨by rw [decV_form (headK_false (k := 2) (by omega) HC.out.symm)], ((((((HD5.out.g).setCell (p := ⟨b, 0, none⟩) (.inr HD5.out.lo) _).setCell (p := ⟨b, 1, none⟩) (.inr HD5.out.lo) _).setCell (p := ⟨b, 2, none⟩) (.inr HD5.out.lo) _).setCell (p := ⟨b + 1, 0, none⟩) (.inr (Nat.le_succ_of_le HD5.out.lo)) _).setCell (p := ⟨b + 1, 1, none⟩) (.inr (Nat.le_succ_of_le HD5.out.lo)) _)⟩
        | true =>
          go_wp2_with fail
          with_reducible refine (HW.out _).mono ?_
          rintro r w5 ⟨rfl, nq, rfl⟩
          have HD5 := Lib.hid (HD.out.gr0 ((Gr.refl [] wr).drewN nq))
          generalize wr.drewN nq = w5 at *
          go_wp2_with fail
          go_roundw
          case rel =>
            refine ⟨3, H ++ (s.extract 16 s.size).extract 0 7, by omega, ?_, rfl, Lib.hid ?_, Lib.hid ?_, HD5.out⟩
            · rfl
            · rw [app_toList, hH.out, HXL.out, decHead_step S 2 (by omega) (by rw [HSL.out]; omega)]
            · unfold headK
              rw [hm.out, ← HC.out]
              rfl
          case measure => simp [intOf]
      · rw [show ((3 : Nat) : Int) = 3 from rfl]
        have hHl : H.data.toList = decHead S := by rw [hH.out, List.take_of_length_le (by rw [decHead_len S (by rw [HSL.out]; omega)]; omega)]
        have HHL := Lib.hid hHl
        have hHs2 : H.size = 21 := hHs
        clear hHs
        obtain ⟨n, hn⟩ : ∃ n, n = dLen S := ⟨_, rfl⟩
        have hnl : n < 65536 := by rw [hn]; exact dLen_lt S
        have HGn := Lib.hid (fun W => get_is (H.extract 0 2) n W (by rw [ByteArray.size_extract]; omega) (by rw [extL, HHL.out]; exact hn))
        have HN := Lib.hid hn
        obtain ⟨kd, hkd⟩ : ∃ kd, kd = dKind S := ⟨_, rfl⟩
        have hkl : kd < 256 := by rw [hkd]; exact dKind_lt S
        have h2 : 2 < H.size := by omega
        have hkk : H[2].toNat = kd := by
          rw [hkd]
          unfold dKind
          rw [← HHL.out, bt_get _ _ (by rw [← size_list]; exact h2)]
          rfl
        have HKD := Lib.hid hkd
        have hwn : IntKind.i64.wrap (n : Int) = (n : Int) := IntWalk.i64_in _ (by omega)
        have i2 : (2 : Int) < (H.size : Int) := by omega
        have i2b : (2 : Int) ≤ (H.size : Int) := by omega
        clear hHl hn hkd
        go_wp2_with fail
        go_quiet ((go_at_call 28; with_reducible exact Calls.quiet_of_same (HGn.out _)))
        have HD5 := Lib.hid (HD.out.gr0 ((Gr.refl [] wr).drewN nq))
        clear HD HGn hwn i2 i2b hkk
        generalize wr.drewN nq = w5 at *
        obtain ⟨c, hc⟩ : ∃ c, c = zB ((decHead S).drop 15) := ⟨_, rfl⟩
        have HZ := Lib.hid (fun W => zero_is (H.extract 15 21) c W (by rw [ByteArray.size_extract]; unfold maxLen; omega) (by rw [ext_toList, HHL.out, List.take_of_length_le (by rw [List.length_drop, decHead_len S (by rw [HSL.out]; omega)]; omega)]; exact hc))
        have HC := Lib.hid hc
        clear hc
        have i15 : (15 : Int) ≤ (H.size : Int) := by omega
        go_wp2_with fail
        with_reducible refine (HZ.out _).mono ?_
        rintro r w6 ⟨rfl, nq, rfl⟩
        have HD6 := Lib.hid (HD5.out.gr0 ((Gr.refl [] w5).drewN nq))
        clear HD5 HZ i15
        generalize w5.drewN nq = w6 at *
        cases c with
        | false =>
          have c0 := HD6.out.s.cell 0
          have c1 := HD6.out.s.cell 1
          have c2 := HD6.out.s.cell 2
          have r0 := HD6.out.r.cell 0
          have r1 := HD6.out.r.cell 1
          have f0 := HD6.out.s.frozen 0
          have f1 := HD6.out.s.frozen 1
          have f2 := HD6.out.s.frozen 2
          have q0 := HD6.out.r.frozen 0
          have q1 := HD6.out.r.frozen 1
          go_wp2_with fail
          exact bodyPost_ret (v := badV 4) (by simp [results, Tryd.results13, go_sem, badV, *]) rfl ⟨by rw [decV_form (form_zero HC.out.symm)], ((((((HD6.out.g).setCell (p := ⟨b, 0, none⟩) (.inr HD6.out.lo) _).setCell (p := ⟨b, 1, none⟩) (.inr HD6.out.lo) _).setCell (p := ⟨b, 2, none⟩) (.inr HD6.out.lo) _).setCell (p := ⟨b + 1, 0, none⟩) (.inr (Nat.le_succ_of_le HD6.out.lo)) _).setCell (p := ⟨b + 1, 1, none⟩) (.inr (Nat.le_succ_of_le HD6.out.lo)) _)⟩
        | true =>
          by_cases hk0 : kd = 0
          · have HK0 := Lib.hid hk0
            have tk : ((kd : Int) == 0) = true := by simp; omega
            clear hk0
            have c0 := HD6.out.s.cell 0
            have c1 := HD6.out.s.cell 1
            have c2 := HD6.out.s.cell 2
            have r0 := HD6.out.r.cell 0
            have r1 := HD6.out.r.cell 1
            have f0 := HD6.out.s.frozen 0
            have f1 := HD6.out.s.frozen 1
            have f2 := HD6.out.s.frozen 2
            have q0 := HD6.out.r.frozen 0
            have q1 := HD6.out.r.frozen 1
            go_wp2_with fail
            exact bodyPost_ret (v := badV 4) (by simp [results, Tryd.results13, go_sem, badV, *]) rfl ⟨by rw [decV_form (form_kind (by rw [← HKD.out]; exact HK0.out))], ((((((HD6.out.g).setCell (p := ⟨b, 0, none⟩) (.inr HD6.out.lo) _).setCell (p := ⟨b, 1, none⟩) (.inr HD6.out.lo) _).setCell (p := ⟨b, 2, none⟩) (.inr HD6.out.lo) _).setCell (p := ⟨b + 1, 0, none⟩) (.inr (Nat.le_succ_of_le HD6.out.lo)) _).setCell (p := ⟨b + 1, 1, none⟩) (.inr (Nat.le_succ_of_le HD6.out.lo)) _)⟩
          · have tk : ((kd : Int) == 0) = false := by simp; omega
            have HK0 := Lib.hid hk0
            clear hk0
            by_cases hn1 : 1024 < n
            · have tn : decide (1024 < (n : Int)) = true := by simp; omega
              have c0 := HD6.out.s.cell 0
              have c1 := HD6.out.s.cell 1
              have c2 := HD6.out.s.cell 2
              have r0 := HD6.out.r.cell 0
              have r1 := HD6.out.r.cell 1
              have f0 := HD6.out.s.frozen 0
              have f1 := HD6.out.s.frozen 1
              have f2 := HD6.out.s.frozen 2
              have q0 := HD6.out.r.frozen 0
              have q1 := HD6.out.r.frozen 1
              go_wp2_with fail
              exact bodyPost_ret (v := badV 4) (by simp [results, Tryd.results13, go_sem, badV, *]) rfl ⟨by rw [decV_form (form_long (by rw [← HN.out]; exact hn1))], ((((((HD6.out.g).setCell (p := ⟨b, 0, none⟩) (.inr HD6.out.lo) _).setCell (p := ⟨b, 1, none⟩) (.inr HD6.out.lo) _).setCell (p := ⟨b, 2, none⟩) (.inr HD6.out.lo) _).setCell (p := ⟨b + 1, 0, none⟩) (.inr (Nat.le_succ_of_le HD6.out.lo)) _).setCell (p := ⟨b + 1, 1, none⟩) (.inr (Nat.le_succ_of_le HD6.out.lo)) _)⟩
            · have tn : decide (1024 < (n : Int)) = false := by simp; omega
              obtain ⟨z, hz⟩ : ∃ z, z = sizeN n := ⟨_, rfl⟩
              have hzb : 32 ≤ z ∧ z ≤ 1300 := by rw [hz]; unfold sizeN nW; omega
              have hz32 := hzb.1
              have hz13 := hzb.2
              have HSZ := Lib.hid (fun W => size_is n z W (by omega) hz)
              have HZZ := Lib.hid hz
              clear hz hzb
              by_cases hsz : s.size < z
              · go_wp2_with fail
                with_reducible refine (HSZ.out _).mono ?_
                rintro r w7 ⟨rfl, rfl⟩
                have c0 := HD6.out.s.cell 0
                have c1 := HD6.out.s.cell 1
                have c2 := HD6.out.s.cell 2
                have r0 := HD6.out.r.cell 0
                have r1 := HD6.out.r.cell 1
                have f0 := HD6.out.s.frozen 0
                have f1 := HD6.out.s.frozen 1
                have f2 := HD6.out.s.frozen 2
                have q0 := HD6.out.r.frozen 0
                have q1 := HD6.out.r.frozen 1
                go_wp2_with fail
                exact bodyPost_ret (v := badV 4) (by simp [results, Tryd.results13, go_sem, badV, *]) rfl ⟨by rw [decV_form (form_size (by rw [HSL.out, ← HN.out, ← HZZ.out]; exact hsz))], ((((((HD6.out.g).setCell (p := ⟨b, 0, none⟩) (.inr HD6.out.lo) _).setCell (p := ⟨b, 1, none⟩) (.inr HD6.out.lo) _).setCell (p := ⟨b, 2, none⟩) (.inr HD6.out.lo) _).setCell (p := ⟨b + 1, 0, none⟩) (.inr (Nat.le_succ_of_le HD6.out.lo)) _).setCell (p := ⟨b + 1, 1, none⟩) (.inr (Nat.le_succ_of_le HD6.out.lo)) _)⟩
              · have iz : (z : Int) ≤ (s.size : Int) := by omega
                have iz2 : (24 : Int) ≤ (z : Int) := by omega
                go_wp2_with fail
                with_reducible refine (HSZ.out _).mono ?_
                rintro r w7 ⟨rfl, rfl⟩
                go_wp2_with fail
                with_reducible refine (HSZ.out _).mono ?_
                rintro r w7 ⟨rfl, rfl⟩
                have hR : (s.extract 24 z).data.toList = (S.drop 24).take (z - 24) := by rw [ext_toList, ← HS.out]
                have hRs : (s.extract 24 z).size = 8 * nW n + 8 := by rw [ByteArray.size_extract]; have := HZZ.out; unfold sizeN at this; omega
                have hbv := bodyOf_any (s.extract 24 z) n
                rw [hR] at hbv
                have hzn : 24 + 8 * nW n ≤ z := by have := HZZ.out; unfold sizeN at this; omega
                obtain ⟨d, hd⟩ : ∃ d, d = wR ((S.drop 24).take (z - 24)) n (nW n) := ⟨_, rfl⟩
                have HDD := Lib.hid (show d = wordsOk S (dLen S) (nW (dLen S)) by rw [hd, words_rest S n (nW n) z hzn (by rw [HSL.out]; omega), HN.out])
                have hbb := body_rest S n z hzn
                cases d with
                | false =>
                  have HBV := Lib.hid (fun W => body_no _ n W hRs (by omega) hR hd.symm)
                  clear hd hbv hR hRs hbb
                  go_wp2_with fail
                  with_reducible refine (HBV.out _).mono ?_
                  rintro r w8 ⟨rfl, g8⟩
                  have HD8 := Lib.hid (HD6.out.gr0 g8)
                  clear HD6 g8
                  have c0 := HD8.out.s.cell 0
                  have c1 := HD8.out.s.cell 1
                  have c2 := HD8.out.s.cell 2
                  have r0 := HD8.out.r.cell 0
                  have r1 := HD8.out.r.cell 1
                  have f0 := HD8.out.s.frozen 0
                  have f1 := HD8.out.s.frozen 1
                  have f2 := HD8.out.s.frozen 2
                  have q0 := HD8.out.r.frozen 0
                  have q1 := HD8.out.r.frozen 1
                  go_wp2_with fail
                  exact bodyPost_ret (v := badV 4) (by simp [results, Tryd.results13, go_sem, badV, *]) rfl ⟨by rw [decV_form (form_words HDD.out.symm)], ((((((HD8.out.g).setCell (p := ⟨b, 0, none⟩) (.inr HD8.out.lo) _).setCell (p := ⟨b, 1, none⟩) (.inr HD8.out.lo) _).setCell (p := ⟨b, 2, none⟩) (.inr HD8.out.lo) _).setCell (p := ⟨b + 1, 0, none⟩) (.inr (Nat.le_succ_of_le HD8.out.lo)) _).setCell (p := ⟨b + 1, 1, none⟩) (.inr (Nat.le_succ_of_le HD8.out.lo)) _)⟩
                | true =>
                  obtain ⟨Y, hY⟩ : ∃ Y : ByteArray, Y = ⟨(dBody S n).toArray⟩ := ⟨_, rfl⟩
                  have HBV := Lib.hid (fun W => body_yes _ n Y W hRs (by omega) hR hd.symm (by rw [hbb]; exact hY))
                  have HY := Lib.hid hY
                  clear hd hbv hR hRs hbb hY
                  go_wp2_with fail
                  with_reducible refine (HBV.out _).mono ?_
                  rintro r w8 ⟨rfl, g8⟩
                  have HD8 := Lib.hid (HD6.out.gr0 g8)
                  clear HD6 g8 HBV
                  go_wp2_with fail
                  with_reducible refine (HSZ.out _).mono ?_
                  rintro r w9 ⟨rfl, rfl⟩
                  obtain ⟨za, hza⟩ : ∃ za : Nat, za + 8 = z := ⟨z - 8, by omega⟩
                  have hwz : IntKind.i64.wrap ((z : Int) - 8) = (za : Int) := by rw [IntWalk.i64_in _ (by omega)]; omega
                  have hwz2 : (z : Int) - 8 = (za : Int) := by omega
                  have iza : (za : Int) ≤ (s.size : Int) := by omega
                  have HZA := Lib.hid hza
                  obtain ⟨g, hg⟩ : ∃ g, g = unW S (sizeN (dLen S) - 8) 48 4 := ⟨_, rfl⟩
                  obtain ⟨Z, hZ⟩ : ∃ Z, Z = (s.extract za s.size).extract 0 4 := ⟨_, rfl⟩
                  have HZQ := Lib.hid hZ
                  have HUW := Lib.hid (fun W => unword_sum (s.extract za s.size) Z g W hZ (by rw [ByteArray.size_extract]; omega) (by rw [ByteArray.size_extract]; unfold maxLen; omega) (by rw [ext_toList, ← HS.out, List.take_of_length_le (by rw [List.length_drop, HSL.out]; omega), unW_drop, hg, ← HN.out, ← HZZ.out]; congr 1; omega))
                  have HGG := Lib.hid hg
                  clear hg hza hZ
                  go_wp2_with fail
                  with_reducible refine (HUW.out _).mono ?_
                  rintro r w9 ⟨rfl, nq, rfl⟩
                  have HD9 := Lib.hid (HD8.out.gr0 ((Gr.refl [] w8).drewN nq))
                  clear HD8 HUW
                  generalize w8.drewN nq = w9 at *
                  cases g with
                  | false =>
                    have c0 := HD9.out.s.cell 0
                    have c1 := HD9.out.s.cell 1
                    have c2 := HD9.out.s.cell 2
                    have r0 := HD9.out.r.cell 0
                    have r1 := HD9.out.r.cell 1
                    have f0 := HD9.out.s.frozen 0
                    have f1 := HD9.out.s.frozen 1
                    have f2 := HD9.out.s.frozen 2
                    have q0 := HD9.out.r.frozen 0
                    have q1 := HD9.out.r.frozen 1
                    go_wp2_with fail
                    exact bodyPost_ret (v := badV 4) (by simp [results, Tryd.results13, go_sem, badV, *]) rfl ⟨by rw [decV_form (form_sum HGG.out.symm)], ((((((HD9.out.g).setCell (p := ⟨b, 0, none⟩) (.inr HD9.out.lo) _).setCell (p := ⟨b, 1, none⟩) (.inr HD9.out.lo) _).setCell (p := ⟨b, 2, none⟩) (.inr HD9.out.lo) _).setCell (p := ⟨b + 1, 0, none⟩) (.inr (Nat.le_succ_of_le HD9.out.lo)) _).setCell (p := ⟨b + 1, 1, none⟩) (.inr (Nat.le_succ_of_le HD9.out.lo)) _)⟩
                  | true =>
                    obtain ⟨gv, hgv⟩ : ∃ gv, gv = getL Z.data.toList := ⟨_, rfl⟩
                    have hZe : (s.extract za s.size).data.toList = S.drop za := by rw [ext_toList, ← HS.out, List.take_of_length_le (by rw [List.length_drop, HSL.out]; omega)]
                    have hzz : za = sizeN (dLen S) - 8 := by rw [← HN.out, ← HZZ.out]; have := HZA.out; omega
                    have hZl : Z.data.toList = (S.drop (sizeN (dLen S) - 8)).take 4 := by rw [HZQ.out, extL, hZe, hzz]
                    have hZs : Z.size ≤ 8 := by rw [HZQ.out, ByteArray.size_extract]; omega
                    have HGV := Lib.hid (fun W => get_is Z gv W hZs hgv)
                    obtain ⟨sv, hsv⟩ : ∃ sv, sv = (sum32 (S.take (sizeN (dLen S) - 8))).toNat := ⟨_, rfl⟩
                    have hsl : sv < 4294967296 := by rw [hsv]; exact sum_lt _
                    have HSV := Lib.hid (fun W => sum_is (s.extract 0 za) sv W (by rw [ByteArray.size_extract]; unfold maxLen; omega) (by rw [extL, ← HS.out, hsv]; congr 3; rw [← HN.out, ← HZZ.out]; have := HZA.out; omega))
                    have hgl : gv < 4294967296 := by rw [hgv, hZl]; exact get4_lt _
                    have HSO := Lib.hid (show sumOk S = (gv == sv) by unfold sumOk; rw [← hZl, ← hgv, ← hsv])
                    have usv : IntKind.u64.wrap (sv : Int) = (sv : Int) := by rw [IntKind.wrap_u64]; omega
                    have HF := Lib.hid (form_yes (S := S) (by rw [HSL.out]; omega) hm.out HC.out.symm (by rw [← HKD.out]; exact HK0.out) (by rw [← HN.out]; omega) (by rw [HSL.out, ← HN.out, ← HZZ.out]; omega) HDD.out.symm HGG.out.symm)
                    have iz0 : (0 : Int) ≤ (za : Int) := by omega
                    clear hgv hZl hsv hZs hZe hzz
                    by_cases hgs : gv = sv
                    · have HGS := Lib.hid hgs
                      have tg : ((gv : Int) != (sv : Int)) = false := by simp; omega
                      clear hgs
                      go_wp2_with fail
                      go_quiet ((first
                        | (go_at_call 28; with_reducible exact Calls.quiet_of_same (HGV.out _))
                        | (go_at_call 21; with_reducible exact Calls.quiet_of_same (HSV.out _))))
                      have HDA := Lib.hid (HD9.out.gr0 ((Gr.refl [] w9).drewN nq))
                      clear HD9 HGV HSV
                      generalize w9.drewN nq = w9 at *
                      obtain ⟨xe, hxe⟩ : ∃ x, x = dE S := ⟨_, rfl⟩
                      obtain ⟨xv, hxv⟩ : ∃ x, x = dV S := ⟨_, rfl⟩
                      obtain ⟨xq, hxq⟩ : ∃ x, x = dQ S := ⟨_, rfl⟩
                      have le : xe < 4294967296 := by rw [hxe]; exact get4_lt _
                      have lv : xv < 4294967296 := by rw [hxv]; exact get4_lt _
                      have lq : xq < 4294967296 := by rw [hxq]; exact get4_lt _
                      have HE1 := Lib.hid (fun W => get_is (H.extract 3 7) xe W (by rw [ByteArray.size_extract]; omega) (by rw [ext_toList, HHL.out]; exact hxe))
                      have HE2 := Lib.hid (fun W => get_is (H.extract 7 11) xv W (by rw [ByteArray.size_extract]; omega) (by rw [ext_toList, HHL.out]; exact hxv))
                      have HE3 := Lib.hid (fun W => get_is (H.extract 11 15) xq W (by rw [ByteArray.size_extract]; omega) (by rw [ext_toList, HHL.out]; exact hxq))
                      have ue : IntKind.u32.wrap (xe : Int) = (xe : Int) := by rw [IntKind.wrap_u32]; omega
                      have uv : IntKind.u32.wrap (xv : Int) = (xv : Int) := by rw [IntKind.wrap_u32]; omega
                      have uq : IntKind.u32.wrap (xq : Int) = (xq : Int) := by rw [IntKind.wrap_u32]; omega
                      have HXX := Lib.hid (And.intro hxe (And.intro hxv hxq))
                      clear hxe hxv hxq
                      go_wp2_with fail
                      have HDB := Lib.hid (HDA.out.gr0 (((Gr.refl [] w9).alloc (Obj.cells #[.int .u32 xe, .int .u32 xv, .int .u32 xq] 30)).drew))
                      have HX := Lib.hid ((Holds.new w9 #[.int .u32 xe, .int .u32 xv, .int .u32 xq] 30).drew)
                      go_region_held3 (fun _ : World => True) (trivial) ((first
                        | (go_at_call 28; (with_reducible refine (HE1.out _).mono ?_); rintro r w10 ⟨rfl, rfl⟩)
                        | (go_at_call 28; (with_reducible refine (HE2.out _).mono ?_); rintro r w10 ⟨rfl, rfl⟩)
                        | (go_at_call 28; (with_reducible refine (HE3.out _).mono ?_); rintro r w10 ⟨rfl, rfl⟩)))
                      all_goals
                        generalize (w9.alloc (Obj.cells #[.int .u32 xe, .int .u32 xv, .int .u32 xq] 30)).drew = wz at *
                        have c0 := HDB.out.s.cell 0
                        have c1 := HDB.out.s.cell 1
                        have c2 := HDB.out.s.cell 2
                        have r0 := HDB.out.r.cell 0
                        have r1 := HDB.out.r.cell 1
                        have f0 := HDB.out.s.frozen 0
                        have f1 := HDB.out.s.frozen 1
                        have f2 := HDB.out.s.frozen 2
                        have q0 := HDB.out.r.frozen 0
                        have q1 := HDB.out.r.frozen 1
                        have x0 := HX.out.cell 0
                        have x1 := HX.out.cell 1
                        have x2 := HX.out.cell 2
                        go_wp2_with fail
                        refine bodyPost_ret (v := .tuple #[.agg #[.int .u32 xe, .int .u32 xv, .int .u32 xq], .agg #[.int .u8 kd, .string Y], .int .i64 0]) (by simp [results, Tryd.results13, go_sem, *]) rfl ⟨?_, ((((((HDB.out.g).setCell (p := ⟨b, 0, none⟩) (.inr HDB.out.lo) _).setCell (p := ⟨b, 1, none⟩) (.inr HDB.out.lo) _).setCell (p := ⟨b, 2, none⟩) (.inr HDB.out.lo) _).setCell (p := ⟨b + 1, 0, none⟩) (.inr (Nat.le_succ_of_le HDB.out.lo)) _).setCell (p := ⟨b + 1, 1, none⟩) (.inr (Nat.le_succ_of_le HDB.out.lo)) _)⟩
                        rw [decV_yes HF.out (by rw [HSO.out]; simpa using HGS.out), ← HXX.out.1, ← HXX.out.2.1, ← HXX.out.2.2, ← HKD.out, HY.out, ← HN.out]
                    · have HGS := Lib.hid hgs
                      have tg : ((gv : Int) != (sv : Int)) = true := by simp; omega
                      clear hgs
                      go_wp2_with fail
                      go_quiet ((first
                        | (go_at_call 28; with_reducible exact Calls.quiet_of_same (HGV.out _))
                        | (go_at_call 21; with_reducible exact Calls.quiet_of_same (HSV.out _))))
                      have HDA := Lib.hid (HD9.out.gr0 ((Gr.refl [] w9).drewN nq))
                      clear HD9 HGV HSV
                      generalize w9.drewN nq = w9 at *
                      have c0 := HDA.out.s.cell 0
                      have c1 := HDA.out.s.cell 1
                      have c2 := HDA.out.s.cell 2
                      have r0 := HDA.out.r.cell 0
                      have r1 := HDA.out.r.cell 1
                      have f0 := HDA.out.s.frozen 0
                      have f1 := HDA.out.s.frozen 1
                      have f2 := HDA.out.s.frozen 2
                      have q0 := HDA.out.r.frozen 0
                      have q1 := HDA.out.r.frozen 1
                      go_wp2_with fail
                      exact bodyPost_ret (v := badV 5) (by simp [results, Tryd.results13, go_sem, badV, *]) rfl ⟨by rw [decV_sum HF.out (by rw [HSO.out]; simpa using HGS.out)], ((((((HDA.out.g).setCell (p := ⟨b, 0, none⟩) (.inr HDA.out.lo) _).setCell (p := ⟨b, 1, none⟩) (.inr HDA.out.lo) _).setCell (p := ⟨b, 2, none⟩) (.inr HDA.out.lo) _).setCell (p := ⟨b + 1, 0, none⟩) (.inr (Nat.le_succ_of_le HDA.out.lo)) _).setCell (p := ⟨b + 1, 1, none⟩) (.inr (Nat.le_succ_of_le HDA.out.lo)) _)⟩


end Go.Proofs.YtpkhfdcokcchdabDoor
