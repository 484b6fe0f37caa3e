/-
  The reference's Sum: a register as a row of bits.
-/
import Derived.Test.YtpkhfdcokcchdabDoorSumP
import Derived.Test.YtpkhfdcokcchdabDoorGapM
import Derived.Test.YtpkhfdcokcchdabDoorBase
import Derived.Test.YtpkhfdcokcchdabDoorReg
namespace Go.Proofs.YtpkhfdcokcchdabDoor
open Go.RowKit

def bv (b : Bool) : Value := .int .i64 (b.toNat : Int)
/-- A row that holds a register's places. -/
def RegIs (xs : List Value) (n : Nat) (f : Nat → Bool) : Prop := xs.length = n ∧ ∀ j, j < n → xs[j]? = some (bv (f j))
theorem RegIs.set {xs : List Value} {n : Nat} {f g : Nat → Bool} (h : RegIs xs n f) (k : Nat) (b : Bool) (hk : k < n) (hg : g k = b) (ho : ∀ j, j < n → j ≠ k → g j = f j) : RegIs (xs.set k (bv b)) n g := by
  refine ⟨by simpa using h.1, fun j hj => ?_⟩
  have := h.1
  by_cases e : j = k
  · subst e; rw [List.getElem?_set_self (by omega), hg]
  · rw [List.getElem?_set_ne (fun h => e h.symm), ho j hj e]; exact h.2 j hj
theorem RegIs.congr {xs : List Value} {n : Nat} {f g : Nat → Bool} (h : RegIs xs n f) (ho : ∀ j, j < n → g j = f j) : RegIs xs n g :=
  ⟨h.1, fun j hj => by rw [ho j hj]; exact h.2 j hj⟩
def shF (n : Nat) (f : Nat → Bool) : Nat → Bool := fun j => if j + 1 < n then f (j + 1) else false
def stF (n : Nat) (t f : Nat → Bool) (b : Bool) : Nat → Bool := fun j => if (f 0 ^^ b) = true then (shF n f j ^^ t j) else shF n f j
theorem own_keepS {w w' : World} {base : Nat} {e : TypeId} {size n : Nat} {v : Value} {xs : List Value} (h : w.ownsRow base e size v n xs) (hb : Below w.heap.size w w') : w'.ownsRow base e size v n xs := by
  refine ⟨h.1, ?_⟩
  rcases h.2 with hn | ⟨g, cap, cur, rfl, hg, hh, rest⟩
  · exact .inl hn
  · exact .inr ⟨g, cap, cur, rfl, hg, (hb.block g (Array.getElem?_eq_some_iff.1 hh).1).trans hh, rest⟩
theorem make_below {w wm : World} (hgrow : w.grownBy wm none) : Below w.heap.size w wm := (Below.refl _ _).grown hgrow (by simp) (fun k hk => by cases hk)
theorem below_drewN {B : Nat} {a w : World} (h : Below B a w) (n : Nat) : Below B a (w.drewN n) := ⟨h.os, h.tape, h.output, h.size, h.block⟩
theorem bit_sum (a b : Bool) : ((a.toNat : Int) + (b.toNat : Int)) % 2 = ((a ^^ b).toNat : Int) := by cases a <;> cases b <;> rfl
theorem bit_le (a : Bool) : a.toNat ≤ 1 := by cases a <;> simp

set_option maxRecDepth 100000 in
set_option maxHeartbeats 2000000 in
theorem rsum (n L lb lc tb tc : Nat) (ls : List Bool) (t : Nat → Bool) (xt : List Value) (w : World) (n1 : 1 ≤ n) (n2 : n ≤ 64) (hL : ls.length = L) (hL2 : L ≤ 100000)
    (hl : w.ownsRow 0 3 1 (.slice (some ⟨lb, 0, none⟩) L lc) L (ls.map bv)) (ht : w.ownsRow 0 3 1 (.slice (some ⟨tb, 0, none⟩) n tc) n xt) (hxt : RegIs xt n t) :
    Calls Tryd.prog 40 #[.slice (some ⟨lb, 0, none⟩) L lc, .slice (some ⟨tb, 0, none⟩) n tc] w fun e w' => ∃ xs : List Value, e = .returned (.slice (some ⟨w.heap.size, 0, none⟩) n n) ∧
      w'.ownsRow w.heap.size 3 1 (.slice (some ⟨w.heap.size, 0, none⟩) n n) n xs ∧ RegIs xs n (ls.foldl (stF n t) (fun _ => true)) ∧ Below w.heap.size w w' := by
  obtain ⟨i0, hi, hz0, hz1, hz2⟩ := info_parts infoInt
  have lbs : lb < w.heap.size := (hl.lt lb rfl).2
  have tbs : tb < w.heap.size := (ht.lt tb rfl).2
  have HL := Lib.hid hl
  have HT := Lib.hid ht
  have HXT := Lib.hid hxt
  clear hl ht hxt
  go_enter Tryd.func40, Tryd.ntmps40
  go_wp2_with (refine wpList_make_full _ rfl _ _ 78 rfl w.heap.size 3 i0 (.int .i64 0) 1 Tryd.underlying78 hi hz0 hz1 .i64 .i64 _ _ n rfl rfl rfl rfl (by rw [hz2]; omega) (by unfold maxLen; omega) (by simp) ?_; intro wm hown hgrow; have B1 := make_below hgrow; clear hgrow)
  generalize (madeCells (Value.cells (.int .i64 0)) (n * 1)).toList = xs0 at *
  go_loopw [6] (fun i wr => ∃ (k : Nat) (xs : List Value), k ≤ n ∧ i = .int .i64 k ∧ wr.ownsRow w.heap.size 3 1 (.slice (some ⟨w.heap.size, 0, none⟩) n n) n xs ∧ (∀ j, j < k → xs[j]? = some (bv true)) ∧ Below w.heap.size w wr) (fun i _ => n - (intOf i).toNat)
  case atStart => exact ⟨0, xs0, by omega, rfl, hown, fun p hp => by omega, B1⟩
  case round =>
    clear hown B1
    obtain ⟨k, xs, hk, rfl, hown, hdone, B2⟩ := hrel
    have hx : xs.length = n := by simpa using hown.1
    by_cases hlt : k < n
    · have hst := hown.stored k (.int .i64 1)
      have hc := hown.cellAt k (by omega)
      rw [List.getElem?_eq_getElem (by omega)] at hc
      have hf := hown.frozenAt k
      have hnext : ∀ p, p < k + 1 → (xs.set k (.int .i64 1))[p]? = some (bv true) := by
        intro p hp
        by_cases e : p = k
        · subst e; rw [List.getElem?_set_self (by omega)]; rfl
        · rw [List.getElem?_set_ne (fun h => e h.symm)]; exact hdone p (by omega)
      have RR := Lib.hid (And.intro hst.1 (And.intro hnext (B2.setCell (p := ⟨w.heap.size, k, none⟩) (by simp) (.int .i64 1))))
      generalize xs[k] = u at *
      clear hst hnext hdone hown B2
      go_wp2
      go_roundw
      case rel => exact ⟨k + 1, _, by omega, by go_num, RR.out.1, RR.out.2.1, RR.out.2.2⟩
      case measure => simp [intOf]; omega
    · have hr1 : RegIs xs n (fun _ => true) := ⟨hx, fun j hj => hdone j (by omega)⟩
      have HR1 := Lib.hid (And.intro hown hr1)
      clear hdone hown hx
      go_wp2_with fail
      go_loopw [7] (fun i wr => ∃ (k : Nat) (xs : List Value), k ≤ L ∧ i = .int .i64 k ∧ wr.ownsRow w.heap.size 3 1 (.slice (some ⟨w.heap.size, 0, none⟩) n n) n xs ∧
          RegIs xs n ((ls.take k).foldl (stF n t) (fun _ => true)) ∧ Below w.heap.size w wr) (fun i _ => L - (intOf i).toNat)
      case atStart => exact ⟨0, xs, by omega, rfl, HR1.out.1, by simpa using HR1.out.2, B2⟩
      case round =>
        clear HR1 B2 hr1 hk
        obtain ⟨i, xs, hk, rfl, hown, hreg, B2⟩ := hrel
        by_cases hlt : i < L
        · obtain ⟨b, hb⟩ : ∃ b, ls[i]? = some b := ⟨_, List.getElem?_eq_getElem (by omega)⟩
          have hnx : (ls.take (i + 1)).foldl (stF n t) (fun _ => true) = stF n t ((ls.take i).foldl (stF n t) (fun _ => true)) b := by
            rw [List.take_add_one, hb, List.foldl_append]; rfl
          have HNX := Lib.hid hnx
          clear hnx
          generalize (ls.take i).foldl (stF n t) (fun _ => true) = f at *
          have hlr := (own_keepS HL.out B2).cellAt i (by omega)
          rw [List.getElem?_map, hb] at hlr
          have hlr2 : wr.cell? ⟨lb, i, none⟩ = some (.int .i64 (b.toNat : Int)) := hlr
          have h0 : wr.cell? ⟨w.heap.size, 0, none⟩ = some (.int .i64 ((f 0).toNat : Int)) := by
            rw [hown.cellAt 0 (by omega)]; exact hreg.2 0 (by omega)
          have hsum := bit_sum (f 0) b
          have q1 := bit_le (f 0)
          have q2 := bit_le b
          have q3 := bit_le (f 0 ^^ b)
          obtain ⟨o, ho⟩ : ∃ o, (f 0 ^^ b) = o := ⟨_, rfl⟩
          rw [ho] at hsum q3
          obtain ⟨O, hO⟩ : ∃ O : Int, O = (o.toNat : Int) := ⟨_, rfl⟩
          rw [← hO] at hsum
          have q4 : 0 ≤ O ∧ O ≤ 1 := by omega
          have HOO := Lib.hid (And.intro ho hO)
          clear hO q3
          have HH := Lib.hid (And.intro hown hreg)
          clear ho hlr hown hreg hb
          go_wp2_with fail
          go_quiet (fail)
          go_wp2_with fail
          rw [hsum]
          clear hlr2 h0 hsum q1 q2
          go_loopw [9] (fun i wr => ∃ (k : Nat) (ys : List Value), k + 1 ≤ n ∧ i = .int .i64 k ∧ wr.ownsRow w.heap.size 3 1 (.slice (some ⟨w.heap.size, 0, none⟩) n n) n ys ∧
              RegIs ys n (fun j => if j < k then f (j + 1) else f j) ∧ Below w.heap.size w wr) (fun i _ => n - (intOf i).toNat)
          case atStart => exact ⟨0, xs, by omega, rfl, HH.out.1, HH.out.2.congr (by intro j hj; simp), below_drewN B2 _⟩
          case round =>
            clear HH B2
            obtain ⟨k, ys, hk1, rfl, hown, hreg, B2⟩ := hrel
            by_cases hlt2 : k + 1 < n
            · have hc : wr.cell? ⟨w.heap.size, k + 1, none⟩ = some (.int .i64 ((f (k + 1)).toNat : Int)) := by
                rw [hown.cellAt (k + 1) (by omega), hreg.2 (k + 1) hlt2]; exact congrArg (fun b => some (bv b)) (if_neg (by omega))
              have hd : wr.cell? ⟨w.heap.size, k, none⟩ = some (.int .i64 ((f k).toNat : Int)) := by
                rw [hown.cellAt k (by omega), hreg.2 k (by omega)]; exact congrArg (fun b => some (bv b)) (if_neg (by omega))
              have hf := hown.frozenAt k
              have hst := hown.stored k (bv (f (k + 1)))
              have RR := Lib.hid (And.intro hst.1 (And.intro (hreg.set (g := fun j => if j < k + 1 then f (j + 1) else f j) k (f (k + 1)) (by omega) (by simp) (by
                intro j hj hne
                by_cases c : j < k
                · simp only [if_pos c, if_pos (show j < k + 1 by omega)]
                · simp only [if_neg c, if_neg (show ¬ j < k + 1 by omega)])) (B2.setCell (p := ⟨w.heap.size, k, none⟩) (by simp) (bv (f (k + 1))))))
              clear hst hown hreg B2
              unfold bv at RR
              go_wp2
              go_roundw
              case rel => exact ⟨k + 1, _, by omega, by go_num, RR.out.1, RR.out.2.1, RR.out.2.2⟩
              case measure => simp [intOf]; omega
            · have hnk : (n : Int) - 1 = (k : Int) := by omega
              have hd : wr.cell? ⟨w.heap.size, k, none⟩ = some (.int .i64 ((f k).toNat : Int)) := by
                rw [hown.cellAt k (by omega), hreg.2 k (by omega)]; exact congrArg (fun b => some (bv b)) (if_neg (by omega))
              have hf := hown.frozenAt k
              have hst := hown.stored k (.int .i64 0)
              have RR := Lib.hid (And.intro hst.1 (And.intro (hreg.set (g := shF n f) k false (by omega) (by unfold shF; rw [if_neg hlt2]) (by
                intro j hj hne
                unfold shF
                simp only [if_pos (show j < k by omega), if_pos (show j + 1 < n by omega)])) (B2.setCell (p := ⟨w.heap.size, k, none⟩) (by simp) (.int .i64 0))))
              clear hst hown hreg B2
              go_wp2_with fail
              have RR2 := RR.out
              generalize wr.setCell ⟨w.heap.size, k, none⟩ (.int .i64 0) = wv at *
              clear hd hf
              generalize hys : ys.set k (bv false) = ys1 at *
              have RR3 : wv.ownsRow w.heap.size 3 1 (.slice (some ⟨w.heap.size, 0, none⟩) n n) n ys1 := by rw [← hys]; exact RR2.1
              obtain ⟨_, hreg4, B4⟩ := RR2
              clear RR hys
              go_loopw [10] (fun i wr => ∃ (k : Nat) (zs : List Value), k ≤ n ∧ (o = false → k = 0) ∧ i = .int .i64 k ∧ wr.ownsRow w.heap.size 3 1 (.slice (some ⟨w.heap.size, 0, none⟩) n n) n zs ∧
                  RegIs zs n (fun j => if j < k then (shF n f j ^^ t j) else shF n f j) ∧ Below w.heap.size w wr) (fun i _ => n - (intOf i).toNat)
              case atStart => exact ⟨0, ys1, by omega, fun _ => rfl, rfl, RR3, hreg4.congr (by intro j hj; simp), B4⟩
              case round =>
                clear RR3 hreg4 B4
                obtain ⟨m, zs, hm, hzero, rfl, hown, hreg, B4⟩ := hrel
                by_cases ho1 : o = true
                · have hO1 : (O == 1) = true := by rw [HOO.out.2, ho1]; rfl
                  by_cases hlt3 : m < n
                  · have hc : wr.cell? ⟨w.heap.size, m, none⟩ = some (.int .i64 ((shF n f m).toNat : Int)) := by
                      rw [hown.cellAt m (by omega), hreg.2 m (by omega)]; exact congrArg (fun b => some (bv b)) (if_neg (by omega))
                    have ht : wr.cell? ⟨tb, m, none⟩ = some (.int .i64 ((t m).toNat : Int)) := by
                      rw [(own_keepS HT.out B4).cellAt m (by omega)]; exact HXT.out.2 m hlt3
                    have hf := hown.frozenAt m
                    have hst := hown.stored m (bv (shF n f m ^^ t m))
                    have RR := Lib.hid (And.intro hst.1 (And.intro (hreg.set (g := fun j => if j < m + 1 then (shF n f j ^^ t j) else shF n f j) m (shF n f m ^^ t m) (by omega) (by simp) (by
                      intro j hj hne
                      by_cases c : j < m
                      · simp only [if_pos c, if_pos (show j < m + 1 by omega)]
                      · simp only [if_neg c, if_neg (show ¬ j < m + 1 by omega)])) (B4.setCell (p := ⟨w.heap.size, m, none⟩) (by simp) (bv (shF n f m ^^ t m)))))
                    have hsum := bit_sum (shF n f m) (t m)
                    have q1 := bit_le (shF n f m)
                    have q2 := bit_le (t m)
                    clear hst hown hreg B4 hzero
                    unfold bv at RR
                    generalize (shF n f m ^^ t m) = p at *
                    go_wp2_with fail
                    go_region
                    go_wp2
                    go_roundw
                    case rel => exact ⟨m + 1, _, by omega, (fun h => absurd (h.symm.trans ho1) (by simp)), by go_num, RR.out.1, RR.out.2.1, RR.out.2.2.drew⟩
                    case measure => simp [intOf]; omega
                  · have hfin : RegIs zs n ((ls.take (i + 1)).foldl (stF n t) (fun _ => true)) := by
                      rw [HNX.out]
                      refine hreg.congr (fun j hj => ?_)
                      unfold stF
                      rw [HOO.out.1, if_pos ho1, if_pos (by omega)]
                    have RR := Lib.hid (And.intro hown (And.intro hfin B4))
                    clear hown hreg hfin B4 hzero
                    go_wp2
                    go_roundw
                    case rel => exact ⟨i + 1, zs, by omega, by go_num, RR.out.1, RR.out.2.1, RR.out.2.2⟩
                    case measure => simp [intOf]; omega
                · have ho2 : o = false := by simpa using ho1
                  have hO1 : (O == 1) = false := by rw [HOO.out.2, ho2]; rfl
                  obtain rfl : m = 0 := hzero ho2
                  have hn0 : (0 : Int) < n := by omega
                  have hfin : RegIs zs n ((ls.take (i + 1)).foldl (stF n t) (fun _ => true)) := by
                    rw [HNX.out]
                    refine hreg.congr (fun j hj => ?_)
                    unfold stF
                    rw [HOO.out.1, if_neg ho1, if_neg (by omega)]
                  have RR := Lib.hid (And.intro hown (And.intro hfin B4))
                  clear hown hreg hfin B4 hzero
                  go_wp2
                  go_roundw
                  case rel => exact ⟨i + 1, zs, by omega, by go_num, RR.out.1, RR.out.2.1, RR.out.2.2⟩
                  case measure => simp [intOf]; omega
        · have hiL : i = L := by omega
          have hfin : RegIs xs n (ls.foldl (stF n t) (fun _ => true)) := by
            rw [hiL, ← hL, List.take_length] at hreg
            exact hreg
          have RR := Lib.hid (And.intro hown (And.intro hfin B2))
          clear hown hreg hfin B2
          go_wp2
          go_ret
          exact ⟨xs, rfl, RR.out.1, RR.out.2.1, RR.out.2.2⟩

end Go.Proofs.YtpkhfdcokcchdabDoor
