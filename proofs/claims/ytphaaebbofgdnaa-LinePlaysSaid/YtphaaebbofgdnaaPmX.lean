/-
  PmFuse.
-/
import Derived.Test.YtphaaebbofgdnaaPmW
namespace Go.Proofs.Ytphaaebbofgdnaa
open Go.RowKit

def fz (f : Int) (o : Bool) (buf : Int → Option (Nat × Bool)) (med : Nat → Nat) (wear : Nat → Int) (c : Nat) : DevS := { n := 3, med := med, buf := buf, wear := wear, bad := fun j => if j = 1 then true else false, fuse := f, off := o, cnt := c }
theorem bootD_none (D : DevS) (L : List Nat) {kp : Nat → Bool} (hk : ∀ j, kp j = false) : bootD D L kp = { D with buf := fun _ => none, fuse := 0, off := false } := by
  unfold bootD persistD
  rw [bootS_none L hk, linesOf_none, perMed_none]
  have : perWear D (fun _ => false) = D.wear := by funext l; simp [perWear]
  rw [this]
section
variable {a : DevA} {w : World} {buf : Int → Option (Nat × Bool)} {med : Nat → Nat} {wear : Nat → Int} {c : Nat}
theorem fz_store (f : Int) (z v : Nat) (hf1 : f ≠ 1) (hz : z < 24) (hv : v < 18446744073709551616) (hc : c < 1000000) (h : DevIs w a (fz f false buf med wear c)) :
    Calls Try.prog 17 #[.pointer (some ⟨a.bd, 0, none⟩), .int .i64 (z : Int), .int .u64 v] w fun e w' => e = .returned (.int .i64 0) ∧ DevIs w' a (fz (if 1 < f then f - 1 else f) false (updZ buf (z : Int) (some (v, false))) med wear (c + 1)) ∧ Gr a.all w w' := by
  have hr : reachE (fz f false buf med wear c) (isWord (fz f false buf med wear c) (z : Int)) = 0 := by
    have : isWord (fz f false buf med wear c) (z : Int) = true := by unfold isWord fz; rw [decide_eq_true_eq]; show 0 ≤ (z : Int) ∧ (z : Int) < 8 * ((3 : Nat) : Int); omega
    rw [this]; rfl
  refine (store_any a _ (z : Int) v w h hv (by show c < _; omega)).mono ?_
  rintro e w' ⟨rfl, d, g⟩
  rw [opE_ok hr hf1]
  rw [opD_ok hr hf1] at d
  exact ⟨rfl, d, g⟩
theorem fz_flush (l : Nat) (hl : l < 3) (hc : c < 1000000) (h : DevIs w a (fz 0 false buf med wear c)) :
    Calls Try.prog 18 #[.pointer (some ⟨a.bd, 0, none⟩), .int .i64 (l : Int)] w fun e w' => e = .returned (.int .i64 0) ∧ DevIs w' a (fz 0 false (flF buf l 8) med wear (c + 1)) ∧ Gr a.all w w' := by
  have hx := live_e (D := fz 0 false buf med wear c) (t := isLine (fz 0 false buf med wear c) (l : Int)) rfl rfl (by unfold isLine fz; rw [decide_eq_true_eq]; show 0 ≤ (l : Int) ∧ (l : Int) < ((3 : Nat) : Int); omega)
  refine (flush_any a _ (l : Int) w h (by show c < _; omega)).mono ?_
  rintro e w' ⟨rfl, d, g⟩
  rw [hx.1]
  rw [hx.2] at d
  exact ⟨rfl, d, g⟩
theorem fz_fence (hc : c < 1000000) (hw : ∀ l, 0 ≤ wear l ∧ wear l < 1000000) (h : DevIs w a (fz 0 false buf med wear c)) :
    Calls Try.prog 19 #[.pointer (some ⟨a.bd, 0, none⟩)] w fun e w' => e = .returned (.int .i64 0) ∧ DevIs w' a (fenceF (fz 0 false buf med wear c)) ∧ Gr a.all w w' := by
  have hx := live_e (D := fz 0 false buf med wear c) (t := true) rfl rfl rfl
  refine (fence_any a _ w h (by show c < _; omega) (fun l => by have := hw l; show 0 ≤ wear l ∧ wear l < _; omega)).mono ?_
  rintro e w' ⟨rfl, d, g⟩
  rw [hx.1]
  rw [hx.2] at d
  exact ⟨rfl, d, g⟩
end
/-- j words stored; l lines flushed. -/
def bufJ (v j : Nat) : Int → Option (Nat × Bool) := fun z => if 0 ≤ z ∧ z < j then some (v, false) else none
def bufL (v l : Nat) : Int → Option (Nat × Bool) := fun z => if 0 ≤ z ∧ z < 24 then some (v, decide (z < 8 * l)) else none
theorem bufJ_zero (v : Nat) : bufJ v 0 = fun _ => none := by funext z; unfold bufJ; rw [if_neg (by omega)]
theorem bufJ_succ (v j : Nat) : updZ (bufJ v j) (j : Int) (some (v, false)) = bufJ v (j + 1) := by
  funext z
  unfold updZ bufJ
  by_cases e : z = (j : Int)
  · rw [if_pos e, if_pos (by omega)]
  · rw [if_neg e]
    by_cases q : 0 ≤ z ∧ z < j
    · rw [if_pos q, if_pos (by omega)]
    · rw [if_neg q, if_neg (by omega)]
theorem bufL_zero (v : Nat) : bufJ v 24 = bufL v 0 := by
  funext z
  unfold bufJ bufL
  by_cases q : 0 ≤ z ∧ z < 24
  · rw [if_pos q, if_pos (by omega), decide_eq_false (by omega)]
  · rw [if_neg q, if_neg (by omega)]
theorem bufL_succ (v l : Nat) (hl : l < 3) : flF (bufL v l) l 8 = bufL v (l + 1) := by
  funext z
  unfold flF bufL
  by_cases q : 0 ≤ z ∧ z < 24
  · rw [if_pos q, if_pos q]
    by_cases r : 8 * (l : Int) ≤ z ∧ z < 8 * l + ((8 : Nat) : Int)
    · rw [if_pos r, decide_eq_true (show z < 8 * ((l + 1 : Nat) : Int) by omega)]; rfl
    · rw [if_neg r]
      congr 2
      rw [decide_eq_decide]
      omega
  · rw [if_neg q, if_neg q]
    split <;> rfl
def medR (v r : Nat) : Nat → Nat := fun i => if r ≠ 0 ∧ i < 24 ∧ i / 8 ≠ 1 then v else 0
def wearR (r : Nat) : Nat → Int := fun l => if l < 3 then (r : Int) else 0
theorem fence_round (v r c : Nat) : fenceF (fz 0 false (bufL v 3) (medR v r) (wearR r) c) = fz 0 false (fun _ => none) (medR v (r + 1)) (wearR (r + 1)) (c + 1) := by
  have hS : ∀ i : Nat, fluS (fz 0 false (bufL v 3) (medR v r) (wearR r) c) i = decide (i < 24) := fun i => by
    show ((bufL v 3 (i : Int)).getD (0, false)).2 = _
    unfold bufL
    by_cases q : i < 24
    · rw [if_pos (by omega), decide_eq_true q]; show decide _ = true; rw [decide_eq_true_eq]; omega
    · rw [if_neg (by omega), decide_eq_false q]; rfl
  have h1 : perMed (fz 0 false (bufL v 3) (medR v r) (wearR r) c) (fluS (fz 0 false (bufL v 3) (medR v r) (wearR r) c)) = medR v (r + 1) := by
    funext i
    unfold perMed
    rw [hS]
    show (if decide (i < 24) = true ∧ (if i / 8 = 1 then true else false) = false then ((bufL v 3 (i : Int)).getD (0, false)).1 else medR v r i) = _
    by_cases q : i < 24
    · by_cases b : i / 8 = 1
      · rw [if_neg (by simp [b])]; unfold medR; rw [if_neg (fun e => e.2.2 b), if_neg (fun e => e.2.2 b)]
      · rw [if_pos (by simp [q, b])]; unfold medR bufL; rw [if_pos (by omega), if_pos ⟨by omega, q, b⟩]; rfl
    · rw [if_neg (by simp [q])]; unfold medR; rw [if_neg (fun e => q e.2.1), if_neg (fun e => q e.2.1)]
  have h2 : perBuf (fz 0 false (bufL v 3) (medR v r) (wearR r) c) (fluS (fz 0 false (bufL v 3) (medR v r) (wearR r) c)) = fun _ => none := by
    funext z
    unfold perBuf
    rw [hS]
    by_cases q : 0 ≤ z ∧ z < 24
    · rw [if_pos ⟨q.1, by rw [decide_eq_true_eq]; omega⟩]
    · show (if _ then none else bufL v 3 z) = none
      unfold bufL
      rw [if_neg q]
      split <;> rfl
  have h3 : perWear (fz 0 false (bufL v 3) (medR v r) (wearR r) c) (linesOf (fluS (fz 0 false (bufL v 3) (medR v r) (wearR r) c))) = wearR (r + 1) := by
    have hl : linesOf (fluS (fz 0 false (bufL v 3) (medR v r) (wearR r) c)) = fun l => decide (l < 3) := by
      funext l
      rw [Bool.eq_iff_iff, linesOf_iff, decide_eq_true_eq]
      constructor
      · rintro ⟨i, hi, he⟩
        rw [hS, decide_eq_true_eq] at hi
        omega
      · intro q
        exact ⟨8 * l, by rw [hS, decide_eq_true_eq]; omega, by omega⟩
    rw [hl]
    funext l
    unfold perWear
    show (if decide (l < 3) = true then wearR r l + 1 else wearR r l) = _
    unfold wearR
    by_cases q : l < 3
    · rw [if_pos (decide_eq_true q), if_pos q, if_pos q]; omega
    · rw [if_neg (by simpa using q), if_neg q, if_neg q]
  unfold fenceF persistD
  rw [h1, h2, h3]
  rfl

set_option maxRecDepth 100000 in
set_option maxHeartbeats 4000000 in
theorem fuse_law (n v : Nat) (w : World) (hn : n < 256) (hv : v < 18446744073709551616) :
    Calls Try.prog 5 #[.int .u8 n, .int .u64 v] w fun e w' => e = .returned (.bool true) ∧ Gr [] w w' := by
  have HV := Lib.hid hv
  clear hv
  have m3 := fun W => make_run (.bool false) 1 24 24 rfl Try.underlying31 infoB rfl (by omega) (by omega) W
  obtain ⟨R3, hr3⟩ : ∃ R, rowOf (fun _ => Value.bool false) 24 = R := ⟨_, rfl⟩
  rw [hr3] at m3
  have HR3 := Lib.hid hr3
  clear hr3
  go_enter Try.func5, Try.ntmps5
  go_wp2_with fail
  refine (pmnew_yes 3 _ (by omega) (by omega)).mono ?_
  rintro e w1 ⟨a, rfl, d1, hlo, g1⟩
  have HN := Lib.hid (show ∀ (wa wb : World), Gr [] w wa → Gr a.all wa wb → Gr [] w wb from fun wa wb p q => p.nextN q fun x hx => .inr (hlo x hx))
  clear hlo
  go_wp2_with fail
  refine (wakes03 _).mono ?_
  rintro e w2 ⟨rfl, q2⟩
  have d2 := d1.gr0 q2
  have g2 := g1.next0 q2
  clear d1 g1 q2
  go_wp2_with fail
  refine (break_in a (newD 3) 1 _ d2 (by show 1 < 3; omega)).mono ?_
  rintro e w3 ⟨rfl, d3, q3⟩
  have g3 := HN.out _ _ g2 (q3.mono (cs := a.all) (fun b hb => by simp at hb; subst hb; simp [DevA.all]))
  clear d2 g2 q3
  go_wp2_with fail
  obtain ⟨K, hK⟩ : ∃ K : Nat, 1 + (n : Int) % 30 = (K : Int) := ⟨1 + n % 30, by omega⟩
  have hK1 : 1 ≤ K ∧ K ≤ 30 := by omega
  rw [hK]
  clear hK
  refine (fuse_any a _ (K : Int) (by omega) _ d3).mono ?_
  rintro e w4 ⟨rfl, d4, q4⟩
  have g4 := HN.out _ _ g3 (q4.mono (cs := a.all) (fun b hb => by simp at hb; subst hb; simp [DevA.all]))
  have D4 : DevIs w4 a (fz ((K + 1 - 1 : Nat) : Int) false (fun _ => none) (fun _ => 0) (fun _ => 0) 0) := by
    have e1 : mx (K : Int) = ((K + 1 - 1 : Nat) : Int) := by unfold mx; omega
    rw [e1] at d4
    exact d4
  clear d3 g3 q4 d4
  have HD := Lib.hid (And.intro D4 g4)
  clear D4 g4
  go_wp2_with fail
  go_loopw [8] (fun z wr => ∃ (i : Nat) (buf : Int → Option (Nat × Bool)), 1 ≤ i ∧ i ≤ K ∧ z = .int .i64 (i : Int) ∧ DevIs wr a (fz ((K + 1 - i : Nat) : Int) false buf (fun _ => 0) (fun _ => 0) (i - 1)) ∧ Gr [] w wr) (fun z _ => K - (intOf z).toNat)
  case atStart => exact ⟨1, _, by omega, by omega, by go_num, HD.out.1, HD.out.2⟩
  case round =>
    clear HD
    obtain ⟨i, buf, hi1, hi2, rfl, d5, g5⟩ := hrel
    by_cases hlt : i < K
    · have hz : ((i : Int) % 24) = ((i % 24 : Nat) : Int) := by omega
      have HS := Lib.hid (fz_store (a := a) ((K + 1 - i : Nat) : Int) (i % 24) v (by omega) (by omega) HV.out (by omega) d5)
      have HZ := Lib.hid hz
      have HG := Lib.hid g5
      clear d5 g5 hz
      go_wp2_with fail
      rw [HZ.out]
      refine HS.out.mono ?_
      rintro e w6 ⟨rfl, d6, q6⟩
      have HR := Lib.hid (And.intro (show DevIs w6 a (fz ((K + 1 - (i + 1) : Nat) : Int) false (updZ buf ((i % 24 : Nat) : Int) (some (v, false))) (fun _ => 0) (fun _ => 0) (i + 1 - 1)) by
        have e1 : (if (1 : Int) < ((K + 1 - i : Nat) : Int) then ((K + 1 - i : Nat) : Int) - 1 else ((K + 1 - i : Nat) : Int)) = ((K + 1 - (i + 1) : Nat) : Int) := by split <;> omega
        rw [e1, show i - 1 + 1 = i + 1 - 1 by omega] at d6
        exact d6) (HN.out _ _ HG.out q6))
      clear d6 q6
      go_wp2_with fail
      go_roundw
      case rel => exact ⟨i + 1, _, by omega, by omega, by go_num, HR.out.1, HR.out.2⟩
      case measure => simp [intOf]; omega
    · obtain rfl : i = K := by omega
      rw [show i + 1 - i = 1 by omega] at d5
      obtain ⟨c, hc⟩ : ∃ c, c = i - 1 := ⟨_, rfl⟩
      have hc2 : c < 30 := by omega
      rw [← hc] at d5
      clear hc
      have hcount := count_any a _ wr d5
      have HC := Lib.hid (show Calls Try.prog 26 #[.pointer (some ⟨a.bd, 0, none⟩)] wr fun e w' => e = .returned (.int .i64 (c : Int)) ∧ wr = w' from hcount)
      have HF := Lib.hid (fence_any a _ wr d5 (by show c < _; omega) (fun l => by show 0 ≤ (0 : Int) ∧ (0 : Int) < _; omega))
      have HG := Lib.hid g5
      clear d5 g5 hcount
      go_wp2_with fail
      refine HC.out.mono ?_
      rintro e w' ⟨rfl, rfl⟩
      clear HC
      go_wp2_with fail
      refine HF.out.mono ?_
      rintro e w6 ⟨rfl, d6, q6⟩
      rw [opD_fuse rfl rfl] at d6
      rw [opE_fuse rfl rfl]
      have d6 : DevIs w6 a (fz 0 true buf (fun _ => 0) (fun _ => 0) c) := d6
      have g6 := HN.out _ _ HG.out q6
      have HO := Lib.hid (show Calls Try.prog 27 #[.pointer (some ⟨a.bd, 0, none⟩)] w6 fun e w' => e = .returned (.bool true) ∧ w6 = w' from off_any a _ w6 d6)
      have HS := Lib.hid (store_any a _ 0 v w6 d6 HV.out (by show c < _; omega))
      have HG6 := Lib.hid g6
      clear d6 q6 g6 HF HG
      go_wp2_with fail
      refine HO.out.mono ?_
      rintro e w' ⟨rfl, rfl⟩
      clear HO
      go_wp2_with fail
      refine HS.out.mono ?_
      rintro e w7 ⟨rfl, d7, q7⟩
      have hre : reachE (fz 0 true buf (fun _ => 0) (fun _ => 0) c) (isWord (fz 0 true buf (fun _ => 0) (fun _ => 0) c) 0) = 6 := rfl
      rw [opD_err (by rw [hre]; omega)] at d7
      rw [opE_err (by rw [hre]; omega), hre]
      clear hre
      have g7 := HN.out _ _ HG6.out q7
      have HC := Lib.hid (show Calls Try.prog 26 #[.pointer (some ⟨a.bd, 0, none⟩)] w7 fun e w' => e = .returned (.int .i64 (c : Int)) ∧ w7 = w' from count_any a _ w7 d7)
      have HD := Lib.hid (And.intro d7 g7)
      clear d7 q7 g7 HS HG6
      go_wp2_with fail
      refine HC.out.mono ?_
      rintro e w' ⟨rfl, rfl⟩
      clear HC
      go_wp2_with fail
      have hlt7 := HD.out.1.lt
      obtain ⟨b, hb⟩ : ∃ b, w7.heap.size = b := ⟨_, rfl⟩
      have X := Holds.new w7 R3 4
      rw [hb] at X hlt7 ⊢
      have HA := Lib.hid (And.intro (HD.out.1.gr0 ((Gr.refl [] w7).alloc (Obj.cells R3 4))) (HD.out.2.next0 ((Gr.refl [] w7).alloc (Obj.cells R3 4))))
      have hbl : b < (w7.alloc (Obj.cells R3 4)).heap.size := by rw [World.size_alloc]; omega
      have HB := Lib.hid (boot_any a _ (.slice (some ⟨b, 0, none⟩) 24 24) 24 (fun _ => false) _ HA.out.1 ⟨_, 24, rfl, (fun j hj => ⟨b, 0, rfl, hbl, by rw [Nat.zero_add, X.cell, ← HR3.out, rowOf_get _ _ _ hj]⟩), (fun _ _ => rfl), by unfold maxLen; omega⟩ (fun l => by show 0 ≤ (0 : Int) ∧ (0 : Int) < _; omega) (by show c ≤ _; omega))
      clear X hbl hlt7 hb
      refine HB.out.mono ?_
      rintro e w8 ⟨rfl, ⟨LL, _, d8⟩, q8⟩
      rw [bootD_none _ _ (fun _ => rfl)] at d8
      have D8 : DevIs w8 a (fz 0 false (fun _ => none) (medR v 0) (wearR 0) c) := by
        have e1 : medR v 0 = fun _ => 0 := by funext i; simp [medR]
        have e2 : wearR 0 = fun _ => 0 := by funext i; simp [wearR]
        rw [e1, e2]
        exact d8
      have HD8 := Lib.hid (And.intro D8 (HN.out _ _ HA.out.2 q8))
      clear d8 D8 q8 HA HB
      go_wp2_with fail
      go_loopw [71] (fun z wr => ∃ (r c : Nat), r ≤ 2 ∧ z = .int .i64 (r : Int) ∧ c ≤ 30 + 28 * r ∧ DevIs wr a (fz 0 false (fun _ => none) (medR v r) (wearR r) c) ∧ Gr [] w wr) (fun z _ => 2 - (intOf z).toNat)
      case atStart => exact ⟨0, c, by omega, rfl, by omega, HD8.out.1, HD8.out.2⟩
      case round =>
        clear HD8 HD
        obtain ⟨r, c1, hr, rfl, hc1, d9, g9⟩ := hrel
        by_cases hr2 : r < 2
        · have hd2 : decide ((r : Int) < 2) = true := by simp; omega
          have HD9 := Lib.hid (And.intro d9 g9)
          clear d9 g9
          go_wp2_with fail
          go_loopw [73] (fun z wr => ∃ (j c : Nat), j ≤ 24 ∧ z = .int .i64 (j : Int) ∧ c ≤ 30 + 28 * r + j ∧ DevIs wr a (fz 0 false (bufJ v j) (medR v r) (wearR r) c) ∧ Gr [] w wr) (fun z _ => 24 - (intOf z).toNat)
          case atStart => exact ⟨0, c1, by omega, rfl, by omega, by rw [bufJ_zero]; exact HD9.out.1, HD9.out.2⟩
          case round =>
            clear HD9
            obtain ⟨j, c2, hj, rfl, hc2', d10, g10⟩ := hrel
            by_cases hj2 : j < 24
            · have HS := Lib.hid (fz_store 0 j v (by omega) hj2 HV.out (by omega) d10)
              have HG := Lib.hid g10
              clear d10 g10
              go_wp2_with fail
              refine HS.out.mono ?_
              rintro e w11 ⟨rfl, d11, q11⟩
              rw [bufJ_succ] at d11
              have HR := Lib.hid (And.intro (show DevIs w11 a (fz 0 false (bufJ v (j + 1)) (medR v r) (wearR r) (c2 + 1)) from d11) (HN.out _ _ HG.out q11))
              clear d11 q11 HS HG
              go_wp2_with fail
              go_roundw
              case rel => exact ⟨j + 1, c2 + 1, by omega, by go_num, by omega, HR.out.1, HR.out.2⟩
              case measure => simp [intOf]; omega
            · obtain rfl : j = 24 := by omega
              rw [bufL_zero] at d10
              have HD10 := Lib.hid (And.intro d10 g10)
              clear d10 g10
              rw [show ((24 : Nat) : Int) = 24 from rfl]
              go_wp2_with fail
              go_loopw [81] (fun z wr => ∃ (l c : Nat), l ≤ 3 ∧ z = .int .i64 (l : Int) ∧ c ≤ 54 + 28 * r + l ∧ DevIs wr a (fz 0 false (bufL v l) (medR v r) (wearR r) c) ∧ Gr [] w wr) (fun z _ => 3 - (intOf z).toNat)
              case atStart => exact ⟨0, c2, by omega, rfl, by omega, HD10.out.1, HD10.out.2⟩
              case round =>
                clear HD10
                obtain ⟨l, c3, hl, rfl, hc3, d12, g12⟩ := hrel
                by_cases hl2 : l < 3
                · have HS := Lib.hid (fz_flush l hl2 (by omega) d12)
                  have HG := Lib.hid g12
                  clear d12 g12
                  go_wp2_with fail
                  refine HS.out.mono ?_
                  rintro e w13 ⟨rfl, d13, q13⟩
                  rw [bufL_succ v l hl2] at d13
                  have HR := Lib.hid (And.intro d13 (HN.out _ _ HG.out q13))
                  clear d13 q13 HS HG
                  go_wp2_with fail
                  go_roundw
                  case rel => exact ⟨l + 1, c3 + 1, by omega, by go_num, by omega, HR.out.1, HR.out.2⟩
                  case measure => simp [intOf]; omega
                · obtain rfl : l = 3 := by omega
                  have HS := Lib.hid (fz_fence (by omega) (fun l => by unfold wearR; split <;> omega) d12)
                  have HG := Lib.hid g12
                  clear d12 g12
                  go_wp2_with fail
                  refine HS.out.mono ?_
                  rintro e w14 ⟨rfl, d14, q14⟩
                  rw [fence_round] at d14
                  have HR := Lib.hid (And.intro d14 (HN.out _ _ HG.out q14))
                  clear d14 q14 HS HG
                  go_wp2_with fail
                  go_roundw
                  case rel => exact ⟨r + 1, c3 + 1, by omega, by go_num, by omega, HR.out.1, HR.out.2⟩
                  case measure => simp [intOf]; omega
        · obtain rfl : r = 2 := by omega
          have H0 := Lib.hid (show Calls Try.prog 23 #[.pointer (some ⟨a.bd, 0, none⟩), .int .i64 0] wr fun e w' => e = .returned (.int .u64 (v : Int)) ∧ wr = w' from media_in a _ 0 wr d9 (by show 0 < 24; omega))
          have H8 := Lib.hid (show Calls Try.prog 23 #[.pointer (some ⟨a.bd, 0, none⟩), .int .i64 8] wr fun e w' => e = .returned (.int .u64 0) ∧ wr = w' from media_in a _ 8 wr d9 (by show 8 < 24; omega))
          have H16 := Lib.hid (show Calls Try.prog 23 #[.pointer (some ⟨a.bd, 0, none⟩), .int .i64 16] wr fun e w' => e = .returned (.int .u64 (v : Int)) ∧ wr = w' from media_in a _ 16 wr d9 (by show 16 < 24; omega))
          have HW1 := Lib.hid (show Calls Try.prog 28 #[.pointer (some ⟨a.bd, 0, none⟩), .int .i64 1] wr fun e w' => e = .returned (.int .i64 2) ∧ wr = w' from wear_in a _ 1 wr d9 (by show 1 < 3; omega))
          have HB1 := Lib.hid (show Calls Try.prog 29 #[.pointer (some ⟨a.bd, 0, none⟩), .int .i64 1] wr fun e w' => e = .returned (.bool true) ∧ wr = w' from badB_in a _ 1 wr d9 (by show 1 < 3; omega))
          have HB0 := Lib.hid (show Calls Try.prog 29 #[.pointer (some ⟨a.bd, 0, none⟩), .int .i64 0] wr fun e w' => e = .returned (.bool false) ∧ wr = w' from badB_in a _ 0 wr d9 (by show 0 < 3; omega))
          have HG := Lib.hid g9
          clear d9 g9
          go_wp2_with fail
          refine H0.out.mono ?_
          rintro e w' ⟨rfl, rfl⟩
          go_wp2_with fail
          refine H8.out.mono ?_
          rintro e w' ⟨rfl, rfl⟩
          go_wp2_with fail
          refine H16.out.mono ?_
          rintro e w' ⟨rfl, rfl⟩
          go_wp2_with fail
          refine HW1.out.mono ?_
          rintro e w' ⟨rfl, rfl⟩
          go_wp2_with fail
          refine HB1.out.mono ?_
          rintro e w' ⟨rfl, rfl⟩
          go_wp2_with fail
          refine HB0.out.mono ?_
          rintro e w' ⟨rfl, rfl⟩
          go_wp2_with fail
          go_ret
          exact ⟨rfl, HG.out⟩
theorem walk_PmFuse (a0 a1 : Int) (w0 : (Lit.int .u8 a0).wf = true) (w1 : (Lit.int .u64 a1).wf = true) (w : World) :
    Calls Try.prog 5 #[.int .u8 a0, .int .u64 a1] w fun e w' => e = .returned (.bool true) ∧ Below w.heap.size w w' := by
  obtain ⟨n, rfl, hn⟩ := natU8 w0
  obtain ⟨v, rfl, hv⟩ := natU64 w1
  exact (fuse_law n v w hn hv).mono fun e w' q => ⟨q.1, q.2.below0⟩

end Go.Proofs.Ytphaaebbofgdnaa
