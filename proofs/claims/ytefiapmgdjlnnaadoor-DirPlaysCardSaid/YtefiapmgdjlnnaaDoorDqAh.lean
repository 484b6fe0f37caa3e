/-
  DqAh: Sum, Sum2, LawE.
-/
import Derived.Test.YtefiapmgdjlnnaaDoorDnAa
import Derived.Test.YtefiapmgdjlnnaaDoorDnAb
import Derived.Test.YtefiapmgdjlnnaaDoorDnAc
import Derived.Test.YtefiapmgdjlnnaaDoorDnAd
import Derived.Test.YtefiapmgdjlnnaaDoorDnAe
import Derived.Test.YtefiapmgdjlnnaaDoorDnAf
import Derived.Test.YtefiapmgdjlnnaaDoorDnAg
import Derived.Test.YtefiapmgdjlnnaaDoorDnAh
import Derived.Test.YtefiapmgdjlnnaaDoorDnAi
import Derived.Test.YtefiapmgdjlnnaaDoorDqAg
import Derived.Test.YtefiapmgdjlnnaaDoorDqAa
import Derived.Test.YtefiapmgdjlnnaaDoorDqAc
import Derived.Test.YtefiapmgdjlnnaaDoorDqAd
import Derived.Deep.QuietTactic
import Derived.BigQuiet
import Derived.Lib.IndexBytes

set_option linter.unusedVariables false

/-
  The reference's Sum: a register as a row of bits.
-/
namespace Go.Proofs.YtefiapmgdjlnnaaDoor
open Go.RowKit

def bv (b : Bool) : Value := .int .i64 (b.toNat : Int)
/-- A row that holds a register's places. -/
def RegIs (xs : List Value) (n : Nat) (f : Nat → Bool) : Prop := xs.length = n ∧ ∀ j, j < n → xs[j]? = some (bv (f j))
theorem RegIs.set {xs : List Value} {n : Nat} {f g : Nat → Bool} (h : RegIs xs n f) (k : Nat) (b : Bool) (hk : k < n) (hg : g k = b) (ho : ∀ j, j < n → j ≠ k → g j = f j) : RegIs (xs.set k (bv b)) n g := by
  refine ⟨by simpa using h.1, fun j hj => ?_⟩
  have := h.1
  by_cases e : j = k
  · subst e; rw [List.getElem?_set_self (by omega), hg]
  · rw [List.getElem?_set_ne (fun h => e h.symm), ho j hj e]; exact h.2 j hj
theorem RegIs.congr {xs : List Value} {n : Nat} {f g : Nat → Bool} (h : RegIs xs n f) (ho : ∀ j, j < n → g j = f j) : RegIs xs n g :=
  ⟨h.1, fun j hj => by rw [ho j hj]; exact h.2 j hj⟩
def shF (n : Nat) (f : Nat → Bool) : Nat → Bool := fun j => if j + 1 < n then f (j + 1) else false
def stF (n : Nat) (t f : Nat → Bool) (b : Bool) : Nat → Bool := fun j => if (f 0 ^^ b) = true then (shF n f j ^^ t j) else shF n f j
theorem own_keepS {w w' : World} {base : Nat} {e : TypeId} {size n : Nat} {v : Value} {xs : List Value} (h : w.ownsRow base e size v n xs) (hb : Below w.heap.size w w') : w'.ownsRow base e size v n xs := by
  refine ⟨h.1, ?_⟩
  rcases h.2 with hn | ⟨g, cap, cur, rfl, hg, hh, rest⟩
  · exact .inl hn
  · exact .inr ⟨g, cap, cur, rfl, hg, (hb.block g (Array.getElem?_eq_some_iff.1 hh).1).trans hh, rest⟩
theorem make_below {w wm : World} (hgrow : w.grownBy wm none) : Below w.heap.size w wm := (Below.refl _ _).grown hgrow (by simp) (fun k hk => by cases hk)
theorem below_drewN {B : Nat} {a w : World} (h : Below B a w) (n : Nat) : Below B a (w.drewN n) := ⟨h.os, h.tape, h.output, h.size, h.block⟩
theorem bit_sum (a b : Bool) : ((a.toNat : Int) + (b.toNat : Int)) % 2 = ((a ^^ b).toNat : Int) := by cases a <;> cases b <;> rfl
theorem bit_le (a : Bool) : a.toNat ≤ 1 := by cases a <;> simp

set_option maxRecDepth 100000 in
set_option maxHeartbeats 2000000 in
theorem rsum (n L lb lc tb tc : Nat) (ls : List Bool) (t : Nat → Bool) (xt : List Value) (w : World) (n1 : 1 ≤ n) (n2 : n ≤ 64) (hL : ls.length = L) (hL2 : L ≤ 100000)
    (hl : w.ownsRow 0 3 1 (.slice (some ⟨lb, 0, none⟩) L lc) L (ls.map bv)) (ht : w.ownsRow 0 3 1 (.slice (some ⟨tb, 0, none⟩) n tc) n xt) (hxt : RegIs xt n t) :
    Calls Tryd.prog 48 #[.slice (some ⟨lb, 0, none⟩) L lc, .slice (some ⟨tb, 0, none⟩) n tc] w fun e w' => ∃ xs : List Value, e = .returned (.slice (some ⟨w.heap.size, 0, none⟩) n n) ∧
      w'.ownsRow w.heap.size 3 1 (.slice (some ⟨w.heap.size, 0, none⟩) n n) n xs ∧ RegIs xs n (ls.foldl (stF n t) (fun _ => true)) ∧ Below w.heap.size w w' := by
  obtain ⟨i0, hi, hz0, hz1, hz2⟩ := info_parts infoInt
  have lbs : lb < w.heap.size := (hl.lt lb rfl).2
  have tbs : tb < w.heap.size := (ht.lt tb rfl).2
  have HL := Lib.hid hl
  have HT := Lib.hid ht
  have HXT := Lib.hid hxt
  clear hl ht hxt
  go_enter Tryd.func48, Tryd.ntmps48
  go_wp2_with (refine wpList_make_full _ rfl _ _ 51 rfl w.heap.size 3 i0 (.int .i64 0) 1 Tryd.underlying51 hi hz0 hz1 .i64 .i64 _ _ n rfl rfl rfl rfl (by rw [hz2]; omega) (by unfold maxLen; omega) (by simp) ?_; intro wm hown hgrow; have B1 := make_below hgrow; clear hgrow)
  generalize (madeCells (Value.cells (.int .i64 0)) (n * 1)).toList = xs0 at *
  go_loopw [6] (fun i wr => ∃ (k : Nat) (xs : List Value), k ≤ n ∧ i = .int .i64 k ∧ wr.ownsRow w.heap.size 3 1 (.slice (some ⟨w.heap.size, 0, none⟩) n n) n xs ∧ (∀ j, j < k → xs[j]? = some (bv true)) ∧ Below w.heap.size w wr) (fun i _ => n - (intOf i).toNat)
  case atStart => exact ⟨0, xs0, by omega, rfl, hown, fun p hp => by omega, B1⟩
  case round =>
    clear hown B1
    obtain ⟨k, xs, hk, rfl, hown, hdone, B2⟩ := hrel
    have hx : xs.length = n := by simpa using hown.1
    by_cases hlt : k < n
    · have hst := hown.stored k (.int .i64 1)
      have hc := hown.cellAt k (by omega)
      rw [List.getElem?_eq_getElem (by omega)] at hc
      have hf := hown.frozenAt k
      have hnext : ∀ p, p < k + 1 → (xs.set k (.int .i64 1))[p]? = some (bv true) := by
        intro p hp
        by_cases e : p = k
        · subst e; rw [List.getElem?_set_self (by omega)]; rfl
        · rw [List.getElem?_set_ne (fun h => e h.symm)]; exact hdone p (by omega)
      have RR := Lib.hid (And.intro hst.1 (And.intro hnext (B2.setCell (p := ⟨w.heap.size, k, none⟩) (by simp) (.int .i64 1))))
      generalize xs[k] = u at *
      clear hst hnext hdone hown B2
      go_wp2
      go_roundw
      case rel => exact ⟨k + 1, _, by omega, by go_num, RR.out.1, RR.out.2.1, RR.out.2.2⟩
      case measure => simp [intOf]; omega
    · have hr1 : RegIs xs n (fun _ => true) := ⟨hx, fun j hj => hdone j (by omega)⟩
      have HR1 := Lib.hid (And.intro hown hr1)
      clear hdone hown hx
      go_wp2_with fail
      go_loopw [7] (fun i wr => ∃ (k : Nat) (xs : List Value), k ≤ L ∧ i = .int .i64 k ∧ wr.ownsRow w.heap.size 3 1 (.slice (some ⟨w.heap.size, 0, none⟩) n n) n xs ∧
          RegIs xs n ((ls.take k).foldl (stF n t) (fun _ => true)) ∧ Below w.heap.size w wr) (fun i _ => L - (intOf i).toNat)
      case atStart => exact ⟨0, xs, by omega, rfl, HR1.out.1, by simpa using HR1.out.2, B2⟩
      case round =>
        clear HR1 B2 hr1 hk
        obtain ⟨i, xs, hk, rfl, hown, hreg, B2⟩ := hrel
        by_cases hlt : i < L
        · obtain ⟨b, hb⟩ : ∃ b, ls[i]? = some b := ⟨_, List.getElem?_eq_getElem (by omega)⟩
          have hnx : (ls.take (i + 1)).foldl (stF n t) (fun _ => true) = stF n t ((ls.take i).foldl (stF n t) (fun _ => true)) b := by
            rw [List.take_add_one, hb, List.foldl_append]; rfl
          have HNX := Lib.hid hnx
          clear hnx
          generalize (ls.take i).foldl (stF n t) (fun _ => true) = f at *
          have hlr := (own_keepS HL.out B2).cellAt i (by omega)
          rw [List.getElem?_map, hb] at hlr
          have hlr2 : wr.cell? ⟨lb, i, none⟩ = some (.int .i64 (b.toNat : Int)) := hlr
          have h0 : wr.cell? ⟨w.heap.size, 0, none⟩ = some (.int .i64 ((f 0).toNat : Int)) := by
            rw [hown.cellAt 0 (by omega)]; exact hreg.2 0 (by omega)
          have hsum := bit_sum (f 0) b
          have q1 := bit_le (f 0)
          have q2 := bit_le b
          have q3 := bit_le (f 0 ^^ b)
          obtain ⟨o, ho⟩ : ∃ o, (f 0 ^^ b) = o := ⟨_, rfl⟩
          rw [ho] at hsum q3
          obtain ⟨O, hO⟩ : ∃ O : Int, O = (o.toNat : Int) := ⟨_, rfl⟩
          rw [← hO] at hsum
          have q4 : 0 ≤ O ∧ O ≤ 1 := by omega
          have HOO := Lib.hid (And.intro ho hO)
          clear hO q3
          have HH := Lib.hid (And.intro hown hreg)
          clear ho hlr hown hreg hb
          go_wp2_with fail
          go_quiet (fail)
          go_wp2_with fail
          rw [hsum]
          clear hlr2 h0 hsum q1 q2
          go_loopw [9] (fun i wr => ∃ (k : Nat) (ys : List Value), k + 1 ≤ n ∧ i = .int .i64 k ∧ wr.ownsRow w.heap.size 3 1 (.slice (some ⟨w.heap.size, 0, none⟩) n n) n ys ∧
              RegIs ys n (fun j => if j < k then f (j + 1) else f j) ∧ Below w.heap.size w wr) (fun i _ => n - (intOf i).toNat)
          case atStart => exact ⟨0, xs, by omega, rfl, HH.out.1, HH.out.2.congr (by intro j hj; simp), below_drewN B2 _⟩
          case round =>
            clear HH B2
            obtain ⟨k, ys, hk1, rfl, hown, hreg, B2⟩ := hrel
            by_cases hlt2 : k + 1 < n
            · have hc : wr.cell? ⟨w.heap.size, k + 1, none⟩ = some (.int .i64 ((f (k + 1)).toNat : Int)) := by
                rw [hown.cellAt (k + 1) (by omega), hreg.2 (k + 1) hlt2]; exact congrArg (fun b => some (bv b)) (if_neg (by omega))
              have hd : wr.cell? ⟨w.heap.size, k, none⟩ = some (.int .i64 ((f k).toNat : Int)) := by
                rw [hown.cellAt k (by omega), hreg.2 k (by omega)]; exact congrArg (fun b => some (bv b)) (if_neg (by omega))
              have hf := hown.frozenAt k
              have hst := hown.stored k (bv (f (k + 1)))
              have RR := Lib.hid (And.intro hst.1 (And.intro (hreg.set (g := fun j => if j < k + 1 then f (j + 1) else f j) k (f (k + 1)) (by omega) (by simp) (by
                intro j hj hne
                by_cases c : j < k
                · simp only [if_pos c, if_pos (show j < k + 1 by omega)]
                · simp only [if_neg c, if_neg (show ¬ j < k + 1 by omega)])) (B2.setCell (p := ⟨w.heap.size, k, none⟩) (by simp) (bv (f (k + 1))))))
              clear hst hown hreg B2
              unfold bv at RR
              go_wp2
              go_roundw
              case rel => exact ⟨k + 1, _, by omega, by go_num, RR.out.1, RR.out.2.1, RR.out.2.2⟩
              case measure => simp [intOf]; omega
            · have hnk : (n : Int) - 1 = (k : Int) := by omega
              have hd : wr.cell? ⟨w.heap.size, k, none⟩ = some (.int .i64 ((f k).toNat : Int)) := by
                rw [hown.cellAt k (by omega), hreg.2 k (by omega)]; exact congrArg (fun b => some (bv b)) (if_neg (by omega))
              have hf := hown.frozenAt k
              have hst := hown.stored k (.int .i64 0)
              have RR := Lib.hid (And.intro hst.1 (And.intro (hreg.set (g := shF n f) k false (by omega) (by unfold shF; rw [if_neg hlt2]) (by
                intro j hj hne
                unfold shF
                simp only [if_pos (show j < k by omega), if_pos (show j + 1 < n by omega)])) (B2.setCell (p := ⟨w.heap.size, k, none⟩) (by simp) (.int .i64 0))))
              clear hst hown hreg B2
              go_wp2_with fail
              have RR2 := RR.out
              generalize wr.setCell ⟨w.heap.size, k, none⟩ (.int .i64 0) = wv at *
              clear hd hf
              generalize hys : ys.set k (bv false) = ys1 at *
              have RR3 : wv.ownsRow w.heap.size 3 1 (.slice (some ⟨w.heap.size, 0, none⟩) n n) n ys1 := by rw [← hys]; exact RR2.1
              obtain ⟨_, hreg4, B4⟩ := RR2
              clear RR hys
              go_loopw [10] (fun i wr => ∃ (k : Nat) (zs : List Value), k ≤ n ∧ (o = false → k = 0) ∧ i = .int .i64 k ∧ wr.ownsRow w.heap.size 3 1 (.slice (some ⟨w.heap.size, 0, none⟩) n n) n zs ∧
                  RegIs zs n (fun j => if j < k then (shF n f j ^^ t j) else shF n f j) ∧ Below w.heap.size w wr) (fun i _ => n - (intOf i).toNat)
              case atStart => exact ⟨0, ys1, by omega, fun _ => rfl, rfl, RR3, hreg4.congr (by intro j hj; simp), B4⟩
              case round =>
                clear RR3 hreg4 B4
                obtain ⟨m, zs, hm, hzero, rfl, hown, hreg, B4⟩ := hrel
                by_cases ho1 : o = true
                · have hO1 : (O == 1) = true := by rw [HOO.out.2, ho1]; rfl
                  by_cases hlt3 : m < n
                  · have hc : wr.cell? ⟨w.heap.size, m, none⟩ = some (.int .i64 ((shF n f m).toNat : Int)) := by
                      rw [hown.cellAt m (by omega), hreg.2 m (by omega)]; exact congrArg (fun b => some (bv b)) (if_neg (by omega))
                    have ht : wr.cell? ⟨tb, m, none⟩ = some (.int .i64 ((t m).toNat : Int)) := by
                      rw [(own_keepS HT.out B4).cellAt m (by omega)]; exact HXT.out.2 m hlt3
                    have hf := hown.frozenAt m
                    have hst := hown.stored m (bv (shF n f m ^^ t m))
                    have RR := Lib.hid (And.intro hst.1 (And.intro (hreg.set (g := fun j => if j < m + 1 then (shF n f j ^^ t j) else shF n f j) m (shF n f m ^^ t m) (by omega) (by simp) (by
                      intro j hj hne
                      by_cases c : j < m
                      · simp only [if_pos c, if_pos (show j < m + 1 by omega)]
                      · simp only [if_neg c, if_neg (show ¬ j < m + 1 by omega)])) (B4.setCell (p := ⟨w.heap.size, m, none⟩) (by simp) (bv (shF n f m ^^ t m)))))
                    have hsum := bit_sum (shF n f m) (t m)
                    have q1 := bit_le (shF n f m)
                    have q2 := bit_le (t m)
                    clear hst hown hreg B4 hzero
                    unfold bv at RR
                    generalize (shF n f m ^^ t m) = p at *
                    go_wp2_with fail
                    go_region
                    go_wp2
                    go_roundw
                    case rel => exact ⟨m + 1, _, by omega, (fun h => absurd (h.symm.trans ho1) (by simp)), by go_num, RR.out.1, RR.out.2.1, RR.out.2.2.drew⟩
                    case measure => simp [intOf]; omega
                  · have hfin : RegIs zs n ((ls.take (i + 1)).foldl (stF n t) (fun _ => true)) := by
                      rw [HNX.out]
                      refine hreg.congr (fun j hj => ?_)
                      unfold stF
                      rw [HOO.out.1, if_pos ho1, if_pos (by omega)]
                    have RR := Lib.hid (And.intro hown (And.intro hfin B4))
                    clear hown hreg hfin B4 hzero
                    go_wp2
                    go_roundw
                    case rel => exact ⟨i + 1, zs, by omega, by go_num, RR.out.1, RR.out.2.1, RR.out.2.2⟩
                    case measure => simp [intOf]; omega
                · have ho2 : o = false := by simpa using ho1
                  have hO1 : (O == 1) = false := by rw [HOO.out.2, ho2]; rfl
                  obtain rfl : m = 0 := hzero ho2
                  have hn0 : (0 : Int) < n := by omega
                  have hfin : RegIs zs n ((ls.take (i + 1)).foldl (stF n t) (fun _ => true)) := by
                    rw [HNX.out]
                    refine hreg.congr (fun j hj => ?_)
                    unfold stF
                    rw [HOO.out.1, if_neg ho1, if_neg (by omega)]
                  have RR := Lib.hid (And.intro hown (And.intro hfin B4))
                  clear hown hreg hfin B4 hzero
                  go_wp2
                  go_roundw
                  case rel => exact ⟨i + 1, zs, by omega, by go_num, RR.out.1, RR.out.2.1, RR.out.2.2⟩
                  case measure => simp [intOf]; omega
        · have hiL : i = L := by omega
          have hfin : RegIs xs n (ls.foldl (stF n t) (fun _ => true)) := by
            rw [hiL, ← hL, List.take_length] at hreg
            exact hreg
          have RR := Lib.hid (And.intro hown (And.intro hfin B2))
          clear hown hreg hfin B2
          go_wp2
          go_ret
          exact ⟨xs, rfl, RR.out.1, RR.out.2.1, RR.out.2.2⟩

end Go.Proofs.YtefiapmgdjlnnaaDoor

/-
  The reference's bits and number.
-/
namespace Go.Proofs.YtefiapmgdjlnnaaDoor
open Go.RowKit

def numF (f : Nat → Bool) : Nat → Nat
  | 0 => 0
  | n + 1 => 2 * numF f n + (f n).toNat
theorem numF_lt (f : Nat → Bool) (n : Nat) : numF f n < 2 ^ n := by
  induction n with
  | zero => simp [numF]
  | succ n ih => unfold numF; have := bit_le (f n); rw [Nat.pow_succ]; omega
theorem numF_msb {w : Nat} (x : BitVec w) (f : Nat → Bool) (h : ∀ j, j < w → f j = x.getMsbD j) (n : Nat) (hn : n ≤ w) : numF f n = x.toNat / 2 ^ (w - n) := by
  induction n with
  | zero => rw [Nat.sub_zero, Nat.div_eq_of_lt x.isLt]; rfl
  | succ n ih =>
    unfold numF
    rw [ih (by omega), h n (by omega), BitVec.getMsbD]
    have e : w - n = (w - (n + 1)) + 1 := by omega
    rw [e, Nat.pow_succ, ← Nat.div_div_eq_div_mul]
    have hb : x.getLsbD (w - 1 - n) = x.toNat.testBit (w - (n + 1)) := by
      rw [BitVec.getLsbD, show w - 1 - n = w - (n + 1) by omega]
    rw [hb, decide_eq_true (show n < w by omega), Bool.true_and, Nat.testBit_eq_decide_div_mod_eq]
    generalize x.toNat / 2 ^ (w - (n + 1)) = q
    by_cases c : q % 2 = 1
    · simp [c]; omega
    · simp [c]; omega
theorem numF_all {w : Nat} (x : BitVec w) (f : Nat → Bool) (h : ∀ j, j < w → f j = x.getMsbD j) : numF f w = x.toNat := by
  rw [numF_msb x f h w (Nat.le_refl _)]; simp
theorem field1 (u : UInt8) (a : Nat) (h : a ≤ 7) : fieldN u.toNat (a : Int) 1 = (u.toNat.testBit a).toNat := by
  have hok : okF (a : Int) 1 := by unfold okF; omega
  have h1 := fieldN_testBit u.toNat a 1 hok 0
  have h2 := fieldN_lt u.toNat a 1 hok
  simp only [Int.toNat_one, Int.toNat_natCast, Nat.add_zero] at h1 h2
  rw [Nat.testBit_zero] at h1
  generalize fieldN u.toNat (a : Int) 1 = q at *
  simp at h1
  rw [← h1]
  have : q = 0 ∨ q = 1 := by omega
  rcases this with rfl | rfl <;> rfl

set_option maxHeartbeats 1000000 in
theorem rnumber (n g c : Nat) (f : Nat → Bool) (xs : List Value) (w : World) (n2 : n ≤ 63) (hown : w.ownsRow 0 3 1 (.slice (some ⟨g, 0, none⟩) n c) n xs) (hreg : RegIs xs n f) :
    Calls Tryd.prog 49 #[.slice (some ⟨g, 0, none⟩) n c] w fun e w' => e = .returned (.int .u64 (numF f n : Nat)) ∧ w = w' := by
  have HO := Lib.hid (And.intro hown hreg)
  clear hown hreg
  go_enter Tryd.func49, Tryd.ntmps49
  go_wp2
  go_loop [3, 4] (fun v i => ∃ k : Nat, k ≤ n ∧ i = .int .i64 k ∧ v = .int .u64 (numF f k : Nat)) (fun _ i => n - (intOf i).toNat)
  case atStart => exact ⟨0, by omega, rfl, rfl⟩
  case round =>
    obtain ⟨k, hk, rfl, rfl⟩ := hrel
    by_cases hlt : k < n
    · have hc : w.cell? ⟨g, k, none⟩ = some (.int .i64 ((f k).toNat : Int)) := by
        rw [HO.out.1.cellAt k (by omega)]; exact HO.out.2.2 k hlt
      have h1 := bit_le (f k)
      have h2 := numF_lt f k
      have h3 : (2 : Nat) ^ k ≤ 2 ^ 62 := Nat.pow_le_pow_right (by omega) (by omega)
      have hs : numF f (k + 1) = 2 * numF f k + (f k).toNat := rfl
      have HS := Lib.hid hs
      clear hs
      generalize numF f k = a at *
      have h4 : a < 4611686018427387904 := by omega
      clear h2 h3
      go_wp2
      go_round
      case rel => exact ⟨k + 1, by omega, by go_num, by rw [HS.out]; push_cast; rfl⟩
      case measure => simp [intOf]; omega
    · obtain rfl : k = n := by omega
      go_wp2
      go_ret
      exact ⟨rfl, rfl⟩

def bitsD (low : Bool) (u : UInt8) : List Bool := (List.range 8).map fun k => u.toNat.testBit (if low = true then k else 7 - k)
theorem bitsD_length (low : Bool) (u : UInt8) : (bitsD low u).length = 8 := by simp [bitsD]
theorem bitsD_at (low : Bool) (u : UInt8) (k : Nat) (h : k < 8) : (bitsD low u)[k]? = some (u.toNat.testBit (if low = true then k else 7 - k)) := by
  simp [bitsD, h]
def preB (low : Bool) (l : List UInt8) : List Bool := l.flatMap (bitsD low)
theorem preB_length (low : Bool) (l : List UInt8) : (preB low l).length = 8 * l.length := by
  induction l with
  | nil => rfl
  | cons u l ih => unfold preB at ih ⊢; rw [List.flatMap_cons, List.length_append, bitsD_length, ih, List.length_cons]; omega
theorem preB_next (low : Bool) (l : List UInt8) (i : Nat) (h : i < l.length) : preB low (l.take (i + 1)) = preB low (l.take i) ++ bitsD low l[i] := by
  unfold preB
  rw [List.take_add_one, List.getElem?_eq_getElem h, List.flatMap_append]
  congr 1
set_option maxRecDepth 100000 in
set_option maxHeartbeats 2000000 in
theorem rbits (s : ByteArray) (low : Bool) (w : World) (hs : s.size ≤ 2000) :
    Calls Tryd.prog 47 #[.string s, .bool low] w fun e w' => ∃ v : Value, e = .returned v ∧ w'.ownsRow w.heap.size 3 1 v (8 * s.size) ((preB low s.data.toList).map bv) ∧ Below w.heap.size w w' := by
  obtain ⟨i0, hi, hz0, hz1, hz2⟩ := info_parts infoInt
  have hsl : s.data.toList.length = s.size := by rw [Array.length_toList]; rfl
  have HSL := Lib.hid hsl
  clear hsl
  go_enter Tryd.func47, Tryd.ntmps47
  go_wp2
  go_loopw [5, 6] (fun v i wr => ∃ k : Nat, k ≤ s.size ∧ i = .int .i64 k ∧ wr.ownsRow w.heap.size 3 1 v (8 * k) ((preB low (s.data.toList.take k)).map bv) ∧ Below w.heap.size w wr) (fun _ i _ => s.size - (intOf i).toNat)
  case atStart => exact ⟨0, by omega, rfl, World.ownsRow_nil _ _ _ _, Below.refl _ _⟩
  case round =>
    obtain ⟨i, hk, rfl, hown, B1⟩ := hrel
    by_cases hlt : i < s.size
    · obtain ⟨u, hu⟩ : ∃ u, s[i] = u := ⟨_, rfl⟩
      have hnx : preB low (s.data.toList.take (i + 1)) = preB low (s.data.toList.take i) ++ bitsD low u := by
        rw [preB_next low _ i (by rw [HSL.out]; exact hlt), ← hu]; rfl
      have HNX := Lib.hid hnx
      clear hnx
      have hpl : (preB low (s.data.toList.take i)).length = 8 * i := by rw [preB_length, List.length_take, HSL.out]; omega
      generalize preB low (s.data.toList.take i) = P at *
      go_wp2_with fail
      go_loopw [5, 7] (fun v j wr => ∃ k : Nat, k ≤ 8 ∧ j = .int .i64 k ∧ wr.ownsRow w.heap.size 3 1 v (8 * i + k) ((P ++ (bitsD low u).take k).map bv) ∧ Below w.heap.size w wr) (fun _ j _ => 8 - (intOf j).toNat)
      case atStart => exact ⟨0, by omega, rfl, by simpa using hown, B1⟩
      case round =>
        clear hown B1
        obtain ⟨k, hk8, rfl, hown, B1⟩ := hrel
        by_cases hlt2 : k < 8
        · obtain ⟨a, ha, ha7, hae⟩ : ∃ a : Nat, (a : Int) = (if low = true then (k : Int) else 7 - (k : Int)) ∧ a ≤ 7 ∧ a = (if low = true then k else 7 - k) := ⟨if low = true then k else 7 - k, by split <;> omega, by split <;> omega, rfl⟩
          have hbit := bitsD_at low u k hlt2
          rw [← hae] at hbit
          have hnx2 : P ++ (bitsD low u).take (k + 1) = (P ++ (bitsD low u).take k) ++ [u.toNat.testBit a] := by rw [List.take_add_one, hbit]; simp
          have hf1 := field1 u a ha7
          have hq := bit_le (u.toNat.testBit a)
          have hPl : (P ++ (bitsD low u).take k).length = 8 * i + k := by rw [List.length_append, List.length_take, bitsD_length, hpl]; omega
          generalize u.toNat.testBit a = p at *
          have HN2 := Lib.hid hnx2
          generalize P ++ (bitsD low u).take k = R at *
          have HF := Lib.hid hf1
          clear hnx2 hf1 hbit hae
          cases hlow : low
          · rw [hlow] at ha
            simp only [Bool.false_eq_true, if_false] at ha
            rw [hlow] at HN2
            subst hlow
            have hfl : fieldN u.toNat (7 - (k : Int)) 1 = p.toNat := by rw [← HF.out]; congr 1; omega
            have HFL := Lib.hid hfl
            clear hfl
            have hw0 : IntKind.u64.wrap (u.toNat : Int) = (u.toNat : Int) := by rw [IntKind.wrap_u64]; have := u.toNat_lt; omega
            go_wp2_with fail
            clear hw0
            have hw1 : IntKind.i64.wrap (p.toNat : Int) = (p.toNat : Int) := IntWalk.i64_in _ (by omega)
            refine (rfield_any u.toNat (7 - (k : Int)) 1 _ (by have := u.toNat_lt; omega)).mono ?_
            rintro e w2 ⟨rfl, rfl⟩
            rw [HFL.out]
            go_wp2_with (first
              | (at_builtin; refine wpList_append_own _ rfl _ _ 51 rfl w.heap.size 3 i0 (.int .i64 0) 1 8 Tryd.underlying51 hi hz0 hz1 hz2 rfl (by decide) _ _ _ rfl (hown.alloc _) ⟨wr.heap.size, 0, none⟩ 1 1 [bv p] rfl rfl ?c1 ?c2 ?c3 ?c4 ?c5 ?_))
            case c1 =>
              intro a u ha
              match a, ha with
              | 0, ha => simp at ha; subst ha; simp [Addr.add, bv]
            case c2 => intro u hu; simp at hu; subst hu; rfl
            case c3 => unfold maxLen; omega
            case c4 => omega
            case c5 => have := B1.size; simp; omega
            intro v' w3 hown3 hgrow3 _
            have RR := Lib.hid (And.intro (show w3.ownsRow w.heap.size 3 1 v' (8 * i + (k + 1)) ((P ++ List.take (k + 1) (bitsD false u)).map bv) by rw [HN2.out, List.map_append, ← Nat.add_assoc]; exact hown3)
              ((B1.alloc B1.size _).grown hgrow3 (by have := B1.size; simp; omega) (fun g hg => (hown.lt g hg).1)))
            clear hown3 hgrow3 hown B1
            go_wp2
            go_roundw
            case rel => exact ⟨k + 1, by omega, by go_num, RR.out.1, RR.out.2⟩
            case measure => simp [intOf]; omega
          · rw [hlow] at ha
            simp only [if_true] at ha
            rw [hlow] at HN2
            subst hlow
            have hfl : fieldN u.toNat (k : Int) 1 = p.toNat := by rw [← HF.out]; congr 1; omega
            have HFL := Lib.hid hfl
            clear hfl
            have hw0 : IntKind.u64.wrap (u.toNat : Int) = (u.toNat : Int) := by rw [IntKind.wrap_u64]; have := u.toNat_lt; omega
            go_wp2_with fail
            clear hw0
            have hw1 : IntKind.i64.wrap (p.toNat : Int) = (p.toNat : Int) := IntWalk.i64_in _ (by omega)
            refine (rfield_any u.toNat (k : Int) 1 _ (by have := u.toNat_lt; omega)).mono ?_
            rintro e w2 ⟨rfl, rfl⟩
            rw [HFL.out]
            go_wp2_with (first
              | (at_builtin; refine wpList_append_own _ rfl _ _ 51 rfl w.heap.size 3 i0 (.int .i64 0) 1 8 Tryd.underlying51 hi hz0 hz1 hz2 rfl (by decide) _ _ _ rfl (hown.alloc _) ⟨wr.heap.size, 0, none⟩ 1 1 [bv p] rfl rfl ?c1 ?c2 ?c3 ?c4 ?c5 ?_))
            case c1 =>
              intro a u ha
              match a, ha with
              | 0, ha => simp at ha; subst ha; simp [Addr.add, bv]
            case c2 => intro u hu; simp at hu; subst hu; rfl
            case c3 => unfold maxLen; omega
            case c4 => omega
            case c5 => have := B1.size; simp; omega
            intro v' w3 hown3 hgrow3 _
            have RR := Lib.hid (And.intro (show w3.ownsRow w.heap.size 3 1 v' (8 * i + (k + 1)) ((P ++ List.take (k + 1) (bitsD true u)).map bv) by rw [HN2.out, List.map_append, ← Nat.add_assoc]; exact hown3)
              ((B1.alloc B1.size _).grown hgrow3 (by have := B1.size; simp; omega) (fun g hg => (hown.lt g hg).1)))
            clear hown3 hgrow3 hown B1
            go_wp2
            go_roundw
            case rel => exact ⟨k + 1, by omega, by go_num, RR.out.1, RR.out.2⟩
            case measure => simp [intOf]; omega
        · obtain rfl : k = 8 := by omega
          have RR := Lib.hid (And.intro hown B1)
          clear hown B1
          go_wp2
          go_roundw
          case rel => exact ⟨i + 1, by omega, by go_num, by rw [HNX.out]; have := RR.out.1; rwa [List.take_of_length_le (by rw [bitsD_length]; omega)] at this, RR.out.2⟩
          case measure => simp [intOf]; omega
    · obtain rfl : i = s.size := by omega
      rw [List.take_of_length_le (by rw [HSL.out]; omega)] at hown
      have RR := Lib.hid (And.intro hown B1)
      clear hown B1
      go_wp2
      go_ret
      exact ⟨_, rfl, RR.out.1, RR.out.2⟩

end Go.Proofs.YtefiapmgdjlnnaaDoor

/-
  The walks of layer 2's statements: checks of mixed texts.
-/
namespace Go.Proofs.YtefiapmgdjlnnaaDoor
open Go.RowKit

/-- Byte j of the mixed text. -/
theorem mix3_length : ∀ (l m n : List UInt8), l.length = m.length → m.length = n.length → (mix3 l m n).length = l.length
  | [], [], [], _, _ => rfl
  | a :: l, b :: m, c :: n, h, h' => by simp [mix3, mix3_length l m n (by simpa using h) (by simpa using h')]
  | [], _ :: _, _, h, _ => by simp at h
  | _ :: _, [], _, h, _ => by simp at h
  | [], [], _ :: _, _, h => by simp at h
  | _ :: _, _ :: _, [], _, h => by simp at h
theorem mix3_get : ∀ (l m n : List UInt8) (j : Nat) (h1 : j < l.length) (h2 : j < m.length) (h3 : j < n.length), (mix3 l m n)[j]? = some (l[j] ^^^ m[j] ^^^ n[j])
  | a :: l, b :: m, c :: n, 0, _, _, _ => rfl
  | a :: l, b :: m, c :: n, j + 1, h1, h2, h3 => by
    simp only [mix3, List.getElem?_cons_succ, List.getElem_cons_succ]
    exact mix3_get l m n j _ _ _
  | [], _, _, _, h, _, _ => by simp at h
  | _ :: _, [], _, _, _, h, _ => by simp at h
  | _ :: _, _ :: _, [], _, _, _, h => by simp at h

/-- The first k bytes are mixed. -/
def DoneMix (a b c : ByteArray) (k : Nat) (xs : List Value) : Prop :=
  ∀ j (h0 : j < a.size) (h1 : j < b.size) (h2 : j < c.size), j < k → xs[j]? = some (byteV (a[j] ^^^ b[j] ^^^ c[j]))
theorem DoneMix.all {a b c : ByteArray} {n : Nat} {xs : List Value} (h : DoneMix a b c n xs) (h0 : n ≤ a.size) (h1 : n ≤ b.size) (h2 : n ≤ c.size) (hx : xs.length = n) :
    xs = (mix3 (a.extract 0 n).data.toList (b.extract 0 n).data.toList (c.extract 0 n).data.toList).map byteV := by
  have l0 : (a.extract 0 n).data.toList.length = n := by rw [← Lib.size_eq, ByteArray.size_extract]; omega
  have l1 : (b.extract 0 n).data.toList.length = n := by rw [← Lib.size_eq, ByteArray.size_extract]; omega
  have l2 : (c.extract 0 n).data.toList.length = n := by rw [← Lib.size_eq, ByteArray.size_extract]; omega
  apply List.ext_getElem?
  intro j
  by_cases hj : j < n
  · rw [h j (by omega) (by omega) (by omega) hj, List.getElem?_map, mix3_get _ _ _ j (by omega) (by omega) (by omega)]
    have e : ∀ (s : ByteArray) (hs : n ≤ s.size) (hl : j < (s.extract 0 n).data.toList.length), (s.extract 0 n).data.toList[j] = s[j] := by
      intro s hs hl
      have : (s.extract 0 n).data.toList[j]? = s.data.toList[j]? := by
        rw [Lib.extract_data, List.drop_zero, List.getElem?_take_of_lt (by omega)]
      rw [List.getElem?_eq_getElem hl, List.getElem?_eq_getElem (by simpa using (show j < s.size by omega))] at this
      exact Option.some.inj this
    simp only [Option.map_some]
    rw [e a h0, e b h1, e c h2]
  · rw [List.getElem?_eq_none (by omega), List.getElem?_eq_none (by rw [List.length_map, mix3_length _ _ _ (by omega) (by omega)]; omega)]

end Go.Proofs.YtefiapmgdjlnnaaDoor
