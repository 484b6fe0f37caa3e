/-
  MgZ: SumP, Sum, Sum2, Sum3.
-/
import Derived.Test.YtgifjnniohcacaaGreatCrc
import Derived.Test.YtgifjnniohcacaaGreatMgAc
import Derived.Test.YtgifjnniohcacaaGreatBase
import Derived.Test.YtgifjnniohcacaaGreatReg
import Derived.Test.YtgifjnniohcacaaGreatRefA
import Derived.Test.YtgifjnniohcacaaGreatLawE

/-
  Plain lemmas on the reference's register: bit by bit.
-/
namespace Go.Proofs.YtgifjnniohcacaaGreat
open Go.RowKit

/-- One bit goes through a register whose highest place comes first. -/
def st {w : Nat} (p x : BitVec w) (b : Bool) : BitVec w := (x <<< 1) ^^^ (if (x.msb ^^ b) = true then p else 0#w)
def bitsHi (u : UInt8) : List Bool := (List.range 8).map fun k => u.toNat.testBit (7 - k)
def bitsLo (u : UInt8) : List Bool := (List.range 8).map fun k => u.toNat.testBit k
theorem st16 (x : BitVec 16) (b : Bool) : st 0x1021#16 x b = s16 x ^^^ (if b = true then 0x1021#16 else 0#16) := by
  unfold st s16
  rw [ite_xor, BitVec.xor_assoc]
def it16 : Nat → BitVec 16 → BitVec 16
  | 0, x => x
  | n + 1, x => it16 n (s16 x)
theorem fold16 (l : List Bool) : ∀ (x y : BitVec 16), l.foldl (st 0x1021#16) (x ^^^ y) = it16 l.length x ^^^ l.foldl (st 0x1021#16) y := by
  induction l with
  | nil => intro x y; rfl
  | cons b l ih =>
    intro x y
    have e : st 0x1021#16 (x ^^^ y) b = s16 x ^^^ st 0x1021#16 y b := by
      rw [st16, st16, s16_xor, BitVec.xor_assoc]
    simp only [List.foldl_cons, List.length_cons, it16]
    rw [e, ih]
theorem byte0_16 : ∀ n : Fin 256, (bitsHi (UInt8.ofNat n)).foldl (st 0x1021#16) 0#16 = b16 0#16 (UInt8.ofNat n) := by decide +kernel
theorem byte16 (x : BitVec 16) (u : UInt8) : (bitsHi u).foldl (st 0x1021#16) x = b16 x u := by
  have h0 := byte0_16 ⟨u.toNat, u.toNat_lt⟩
  have hu : UInt8.ofNat u.toNat = u := by simp
  simp only [hu] at h0
  have h1 := fold16 (bitsHi u) x 0#16
  rw [BitVec.xor_zero, h0] at h1
  rw [h1]
  have h2 := b16_xor x 0#16 0 u
  rw [BitVec.xor_zero, show (0 : UInt8) ^^^ u = u by simp] at h2
  rw [h2]
  congr 1
  have : (bitsHi u).length = 8 := by simp [bitsHi]
  rw [this]
  unfold b16
  simp [it16]
theorem sum16_bits (l : List UInt8) : ∀ x : BitVec 16, (l.flatMap bitsHi).foldl (st 0x1021#16) x = c16 l x := by
  induction l with
  | nil => intro x; rfl
  | cons u l ih =>
    intro x
    rw [List.flatMap_cons, List.foldl_append, byte16, ih]
    rfl

end Go.Proofs.YtgifjnniohcacaaGreat

/-
  The reference's Sum: a register as a row of bits.
-/
namespace Go.Proofs.YtgifjnniohcacaaGreat
open Go.RowKit

def bv (b : Bool) : Value := .int .i64 (b.toNat : Int)
/-- A row that holds a register's places. -/
def RegIs (xs : List Value) (n : Nat) (f : Nat → Bool) : Prop := xs.length = n ∧ ∀ j, j < n → xs[j]? = some (bv (f j))
theorem RegIs.set {xs : List Value} {n : Nat} {f g : Nat → Bool} (h : RegIs xs n f) (k : Nat) (b : Bool) (hk : k < n) (hg : g k = b) (ho : ∀ j, j < n → j ≠ k → g j = f j) : RegIs (xs.set k (bv b)) n g := by
  refine ⟨by simpa using h.1, fun j hj => ?_⟩
  have := h.1
  by_cases e : j = k
  · subst e; rw [List.getElem?_set_self (by omega), hg]
  · rw [List.getElem?_set_ne (fun h => e h.symm), ho j hj e]; exact h.2 j hj
theorem RegIs.congr {xs : List Value} {n : Nat} {f g : Nat → Bool} (h : RegIs xs n f) (ho : ∀ j, j < n → g j = f j) : RegIs xs n g :=
  ⟨h.1, fun j hj => by rw [ho j hj]; exact h.2 j hj⟩
def shF (n : Nat) (f : Nat → Bool) : Nat → Bool := fun j => if j + 1 < n then f (j + 1) else false
def stF (n : Nat) (t f : Nat → Bool) (b : Bool) : Nat → Bool := fun j => if (f 0 ^^ b) = true then (shF n f j ^^ t j) else shF n f j
theorem own_keepS {w w' : World} {base : Nat} {e : TypeId} {size n : Nat} {v : Value} {xs : List Value} (h : w.ownsRow base e size v n xs) (hb : Below w.heap.size w w') : w'.ownsRow base e size v n xs := by
  refine ⟨h.1, ?_⟩
  rcases h.2 with hn | ⟨g, cap, cur, rfl, hg, hh, rest⟩
  · exact .inl hn
  · exact .inr ⟨g, cap, cur, rfl, hg, (hb.block g (Array.getElem?_eq_some_iff.1 hh).1).trans hh, rest⟩
theorem make_below {w wm : World} (hgrow : w.grownBy wm none) : Below w.heap.size w wm := (Below.refl _ _).grown hgrow (by simp) (fun k hk => by cases hk)
theorem below_drewN {B : Nat} {a w : World} (h : Below B a w) (n : Nat) : Below B a (w.drewN n) := ⟨h.os, h.tape, h.output, h.size, h.block⟩
theorem bit_sum (a b : Bool) : ((a.toNat : Int) + (b.toNat : Int)) % 2 = ((a ^^ b).toNat : Int) := by cases a <;> cases b <;> rfl
theorem bit_le (a : Bool) : a.toNat ≤ 1 := by cases a <;> simp

set_option maxRecDepth 100000 in
set_option maxHeartbeats 2000000 in
theorem rsum (n L lb lc tb tc : Nat) (ls : List Bool) (t : Nat → Bool) (xt : List Value) (w : World) (n1 : 1 ≤ n) (n2 : n ≤ 64) (hL : ls.length = L) (hL2 : L ≤ 100000)
    (hl : w.ownsRow 0 3 1 (.slice (some ⟨lb, 0, none⟩) L lc) L (ls.map bv)) (ht : w.ownsRow 0 3 1 (.slice (some ⟨tb, 0, none⟩) n tc) n xt) (hxt : RegIs xt n t) :
    Calls Tryz.prog 97 #[.slice (some ⟨lb, 0, none⟩) L lc, .slice (some ⟨tb, 0, none⟩) n tc] w fun e w' => ∃ xs : List Value, e = .returned (.slice (some ⟨w.heap.size, 0, none⟩) n n) ∧
      w'.ownsRow w.heap.size 3 1 (.slice (some ⟨w.heap.size, 0, none⟩) n n) n xs ∧ RegIs xs n (ls.foldl (stF n t) (fun _ => true)) ∧ Below w.heap.size w w' := by
  obtain ⟨i0, hi, hz0, hz1, hz2⟩ := info_parts infoInt
  have lbs : lb < w.heap.size := (hl.lt lb rfl).2
  have tbs : tb < w.heap.size := (ht.lt tb rfl).2
  have HL := Lib.hid hl
  have HT := Lib.hid ht
  have HXT := Lib.hid hxt
  clear hl ht hxt
  go_enter Tryz.func97, Tryz.ntmps97
  go_wp2_with (refine wpList_make_full _ rfl _ _ 46 rfl w.heap.size 3 i0 (.int .i64 0) 1 Tryz.underlying46 hi hz0 hz1 .i64 .i64 _ _ n rfl rfl rfl rfl (by rw [hz2]; omega) (by unfold maxLen; omega) (by simp) ?_; intro wm hown hgrow; have B1 := make_below hgrow; clear hgrow)
  generalize (madeCells (Value.cells (.int .i64 0)) (n * 1)).toList = xs0 at *
  go_loopw [6] (fun i wr => ∃ (k : Nat) (xs : List Value), k ≤ n ∧ i = .int .i64 k ∧ wr.ownsRow w.heap.size 3 1 (.slice (some ⟨w.heap.size, 0, none⟩) n n) n xs ∧ (∀ j, j < k → xs[j]? = some (bv true)) ∧ Below w.heap.size w wr) (fun i _ => n - (intOf i).toNat)
  case atStart => exact ⟨0, xs0, by omega, rfl, hown, fun p hp => by omega, B1⟩
  case round =>
    clear hown B1
    obtain ⟨k, xs, hk, rfl, hown, hdone, B2⟩ := hrel
    have hx : xs.length = n := by simpa using hown.1
    by_cases hlt : k < n
    · have hst := hown.stored k (.int .i64 1)
      have hc := hown.cellAt k (by omega)
      rw [List.getElem?_eq_getElem (by omega)] at hc
      have hf := hown.frozenAt k
      have hnext : ∀ p, p < k + 1 → (xs.set k (.int .i64 1))[p]? = some (bv true) := by
        intro p hp
        by_cases e : p = k
        · subst e; rw [List.getElem?_set_self (by omega)]; rfl
        · rw [List.getElem?_set_ne (fun h => e h.symm)]; exact hdone p (by omega)
      have RR := Lib.hid (And.intro hst.1 (And.intro hnext (B2.setCell (p := ⟨w.heap.size, k, none⟩) (by simp) (.int .i64 1))))
      generalize xs[k] = u at *
      clear hst hnext hdone hown B2
      go_wp2
      go_roundw
      case rel => exact ⟨k + 1, _, by omega, by go_num, RR.out.1, RR.out.2.1, RR.out.2.2⟩
      case measure => simp [intOf]; omega
    · have hr1 : RegIs xs n (fun _ => true) := ⟨hx, fun j hj => hdone j (by omega)⟩
      have HR1 := Lib.hid (And.intro hown hr1)
      clear hdone hown hx
      go_wp2_with fail
      go_loopw [7] (fun i wr => ∃ (k : Nat) (xs : List Value), k ≤ L ∧ i = .int .i64 k ∧ wr.ownsRow w.heap.size 3 1 (.slice (some ⟨w.heap.size, 0, none⟩) n n) n xs ∧
          RegIs xs n ((ls.take k).foldl (stF n t) (fun _ => true)) ∧ Below w.heap.size w wr) (fun i _ => L - (intOf i).toNat)
      case atStart => exact ⟨0, xs, by omega, rfl, HR1.out.1, by simpa using HR1.out.2, B2⟩
      case round =>
        clear HR1 B2 hr1 hk
        obtain ⟨i, xs, hk, rfl, hown, hreg, B2⟩ := hrel
        by_cases hlt : i < L
        · obtain ⟨b, hb⟩ : ∃ b, ls[i]? = some b := ⟨_, List.getElem?_eq_getElem (by omega)⟩
          have hnx : (ls.take (i + 1)).foldl (stF n t) (fun _ => true) = stF n t ((ls.take i).foldl (stF n t) (fun _ => true)) b := by
            rw [List.take_add_one, hb, List.foldl_append]; rfl
          have HNX := Lib.hid hnx
          clear hnx
          generalize (ls.take i).foldl (stF n t) (fun _ => true) = f at *
          have hlr := (own_keepS HL.out B2).cellAt i (by omega)
          rw [List.getElem?_map, hb] at hlr
          have hlr2 : wr.cell? ⟨lb, i, none⟩ = some (.int .i64 (b.toNat : Int)) := hlr
          have h0 : wr.cell? ⟨w.heap.size, 0, none⟩ = some (.int .i64 ((f 0).toNat : Int)) := by
            rw [hown.cellAt 0 (by omega)]; exact hreg.2 0 (by omega)
          have hsum := bit_sum (f 0) b
          have q1 := bit_le (f 0)
          have q2 := bit_le b
          have q3 := bit_le (f 0 ^^ b)
          obtain ⟨o, ho⟩ : ∃ o, (f 0 ^^ b) = o := ⟨_, rfl⟩
          rw [ho] at hsum q3
          obtain ⟨O, hO⟩ : ∃ O : Int, O = (o.toNat : Int) := ⟨_, rfl⟩
          rw [← hO] at hsum
          have q4 : 0 ≤ O ∧ O ≤ 1 := by omega
          have HOO := Lib.hid (And.intro ho hO)
          clear hO q3
          have HH := Lib.hid (And.intro hown hreg)
          clear ho hlr hown hreg hb
          go_wp2_with fail
          go_quiet (fail)
          go_wp2_with fail
          rw [hsum]
          clear hlr2 h0 hsum q1 q2
          go_loopw [9] (fun i wr => ∃ (k : Nat) (ys : List Value), k + 1 ≤ n ∧ i = .int .i64 k ∧ wr.ownsRow w.heap.size 3 1 (.slice (some ⟨w.heap.size, 0, none⟩) n n) n ys ∧
              RegIs ys n (fun j => if j < k then f (j + 1) else f j) ∧ Below w.heap.size w wr) (fun i _ => n - (intOf i).toNat)
          case atStart => exact ⟨0, xs, by omega, rfl, HH.out.1, HH.out.2.congr (by intro j hj; simp), below_drewN B2 _⟩
          case round =>
            clear HH B2
            obtain ⟨k, ys, hk1, rfl, hown, hreg, B2⟩ := hrel
            by_cases hlt2 : k + 1 < n
            · have hc : wr.cell? ⟨w.heap.size, k + 1, none⟩ = some (.int .i64 ((f (k + 1)).toNat : Int)) := by
                rw [hown.cellAt (k + 1) (by omega), hreg.2 (k + 1) hlt2]; exact congrArg (fun b => some (bv b)) (if_neg (by omega))
              have hd : wr.cell? ⟨w.heap.size, k, none⟩ = some (.int .i64 ((f k).toNat : Int)) := by
                rw [hown.cellAt k (by omega), hreg.2 k (by omega)]; exact congrArg (fun b => some (bv b)) (if_neg (by omega))
              have hf := hown.frozenAt k
              have hst := hown.stored k (bv (f (k + 1)))
              have RR := Lib.hid (And.intro hst.1 (And.intro (hreg.set (g := fun j => if j < k + 1 then f (j + 1) else f j) k (f (k + 1)) (by omega) (by simp) (by
                intro j hj hne
                by_cases c : j < k
                · simp only [if_pos c, if_pos (show j < k + 1 by omega)]
                · simp only [if_neg c, if_neg (show ¬ j < k + 1 by omega)])) (B2.setCell (p := ⟨w.heap.size, k, none⟩) (by simp) (bv (f (k + 1))))))
              clear hst hown hreg B2
              unfold bv at RR
              go_wp2
              go_roundw
              case rel => exact ⟨k + 1, _, by omega, by go_num, RR.out.1, RR.out.2.1, RR.out.2.2⟩
              case measure => simp [intOf]; omega
            · have hnk : (n : Int) - 1 = (k : Int) := by omega
              have hd : wr.cell? ⟨w.heap.size, k, none⟩ = some (.int .i64 ((f k).toNat : Int)) := by
                rw [hown.cellAt k (by omega), hreg.2 k (by omega)]; exact congrArg (fun b => some (bv b)) (if_neg (by omega))
              have hf := hown.frozenAt k
              have hst := hown.stored k (.int .i64 0)
              have RR := Lib.hid (And.intro hst.1 (And.intro (hreg.set (g := shF n f) k false (by omega) (by unfold shF; rw [if_neg hlt2]) (by
                intro j hj hne
                unfold shF
                simp only [if_pos (show j < k by omega), if_pos (show j + 1 < n by omega)])) (B2.setCell (p := ⟨w.heap.size, k, none⟩) (by simp) (.int .i64 0))))
              clear hst hown hreg B2
              go_wp2_with fail
              have RR2 := RR.out
              generalize wr.setCell ⟨w.heap.size, k, none⟩ (.int .i64 0) = wv at *
              clear hd hf
              generalize hys : ys.set k (bv false) = ys1 at *
              have RR3 : wv.ownsRow w.heap.size 3 1 (.slice (some ⟨w.heap.size, 0, none⟩) n n) n ys1 := by rw [← hys]; exact RR2.1
              obtain ⟨_, hreg4, B4⟩ := RR2
              clear RR hys
              go_loopw [10] (fun i wr => ∃ (k : Nat) (zs : List Value), k ≤ n ∧ (o = false → k = 0) ∧ i = .int .i64 k ∧ wr.ownsRow w.heap.size 3 1 (.slice (some ⟨w.heap.size, 0, none⟩) n n) n zs ∧
                  RegIs zs n (fun j => if j < k then (shF n f j ^^ t j) else shF n f j) ∧ Below w.heap.size w wr) (fun i _ => n - (intOf i).toNat)
              case atStart => exact ⟨0, ys1, by omega, fun _ => rfl, rfl, RR3, hreg4.congr (by intro j hj; simp), B4⟩
              case round =>
                clear RR3 hreg4 B4
                obtain ⟨m, zs, hm, hzero, rfl, hown, hreg, B4⟩ := hrel
                by_cases ho1 : o = true
                · have hO1 : (O == 1) = true := by rw [HOO.out.2, ho1]; rfl
                  by_cases hlt3 : m < n
                  · have hc : wr.cell? ⟨w.heap.size, m, none⟩ = some (.int .i64 ((shF n f m).toNat : Int)) := by
                      rw [hown.cellAt m (by omega), hreg.2 m (by omega)]; exact congrArg (fun b => some (bv b)) (if_neg (by omega))
                    have ht : wr.cell? ⟨tb, m, none⟩ = some (.int .i64 ((t m).toNat : Int)) := by
                      rw [(own_keepS HT.out B4).cellAt m (by omega)]; exact HXT.out.2 m hlt3
                    have hf := hown.frozenAt m
                    have hst := hown.stored m (bv (shF n f m ^^ t m))
                    have RR := Lib.hid (And.intro hst.1 (And.intro (hreg.set (g := fun j => if j < m + 1 then (shF n f j ^^ t j) else shF n f j) m (shF n f m ^^ t m) (by omega) (by simp) (by
                      intro j hj hne
                      by_cases c : j < m
                      · simp only [if_pos c, if_pos (show j < m + 1 by omega)]
                      · simp only [if_neg c, if_neg (show ¬ j < m + 1 by omega)])) (B4.setCell (p := ⟨w.heap.size, m, none⟩) (by simp) (bv (shF n f m ^^ t m)))))
                    have hsum := bit_sum (shF n f m) (t m)
                    have q1 := bit_le (shF n f m)
                    have q2 := bit_le (t m)
                    clear hst hown hreg B4 hzero
                    unfold bv at RR
                    generalize (shF n f m ^^ t m) = p at *
                    go_wp2_with fail
                    go_region
                    go_wp2
                    go_roundw
                    case rel => exact ⟨m + 1, _, by omega, (fun h => absurd (h.symm.trans ho1) (by simp)), by go_num, RR.out.1, RR.out.2.1, RR.out.2.2.drew⟩
                    case measure => simp [intOf]; omega
                  · have hfin : RegIs zs n ((ls.take (i + 1)).foldl (stF n t) (fun _ => true)) := by
                      rw [HNX.out]
                      refine hreg.congr (fun j hj => ?_)
                      unfold stF
                      rw [HOO.out.1, if_pos ho1, if_pos (by omega)]
                    have RR := Lib.hid (And.intro hown (And.intro hfin B4))
                    clear hown hreg hfin B4 hzero
                    go_wp2
                    go_roundw
                    case rel => exact ⟨i + 1, zs, by omega, by go_num, RR.out.1, RR.out.2.1, RR.out.2.2⟩
                    case measure => simp [intOf]; omega
                · have ho2 : o = false := by simpa using ho1
                  have hO1 : (O == 1) = false := by rw [HOO.out.2, ho2]; rfl
                  obtain rfl : m = 0 := hzero ho2
                  have hn0 : (0 : Int) < n := by omega
                  have hfin : RegIs zs n ((ls.take (i + 1)).foldl (stF n t) (fun _ => true)) := by
                    rw [HNX.out]
                    refine hreg.congr (fun j hj => ?_)
                    unfold stF
                    rw [HOO.out.1, if_neg ho1, if_neg (by omega)]
                  have RR := Lib.hid (And.intro hown (And.intro hfin B4))
                  clear hown hreg hfin B4 hzero
                  go_wp2
                  go_roundw
                  case rel => exact ⟨i + 1, zs, by omega, by go_num, RR.out.1, RR.out.2.1, RR.out.2.2⟩
                  case measure => simp [intOf]; omega
        · have hiL : i = L := by omega
          have hfin : RegIs xs n (ls.foldl (stF n t) (fun _ => true)) := by
            rw [hiL, ← hL, List.take_length] at hreg
            exact hreg
          have RR := Lib.hid (And.intro hown (And.intro hfin B2))
          clear hown hreg hfin B2
          go_wp2
          go_ret
          exact ⟨xs, rfl, RR.out.1, RR.out.2.1, RR.out.2.2⟩

end Go.Proofs.YtgifjnniohcacaaGreat

/-
  The reference's bits and number.
-/
namespace Go.Proofs.YtgifjnniohcacaaGreat
open Go.RowKit

def numF (f : Nat → Bool) : Nat → Nat
  | 0 => 0
  | n + 1 => 2 * numF f n + (f n).toNat
theorem numF_lt (f : Nat → Bool) (n : Nat) : numF f n < 2 ^ n := by
  induction n with
  | zero => simp [numF]
  | succ n ih => unfold numF; have := bit_le (f n); rw [Nat.pow_succ]; omega
theorem numF_msb {w : Nat} (x : BitVec w) (f : Nat → Bool) (h : ∀ j, j < w → f j = x.getMsbD j) (n : Nat) (hn : n ≤ w) : numF f n = x.toNat / 2 ^ (w - n) := by
  induction n with
  | zero => rw [Nat.sub_zero, Nat.div_eq_of_lt x.isLt]; rfl
  | succ n ih =>
    unfold numF
    rw [ih (by omega), h n (by omega), BitVec.getMsbD]
    have e : w - n = (w - (n + 1)) + 1 := by omega
    rw [e, Nat.pow_succ, ← Nat.div_div_eq_div_mul]
    have hb : x.getLsbD (w - 1 - n) = x.toNat.testBit (w - (n + 1)) := by
      rw [BitVec.getLsbD, show w - 1 - n = w - (n + 1) by omega]
    rw [hb, decide_eq_true (show n < w by omega), Bool.true_and, Nat.testBit_eq_decide_div_mod_eq]
    generalize x.toNat / 2 ^ (w - (n + 1)) = q
    by_cases c : q % 2 = 1
    · simp [c]; omega
    · simp [c]; omega
theorem numF_all {w : Nat} (x : BitVec w) (f : Nat → Bool) (h : ∀ j, j < w → f j = x.getMsbD j) : numF f w = x.toNat := by
  rw [numF_msb x f h w (Nat.le_refl _)]; simp
theorem field1 (u : UInt8) (a : Nat) (h : a ≤ 7) : fieldN u.toNat (a : Int) 1 = (u.toNat.testBit a).toNat := by
  have hok : okF (a : Int) 1 := by unfold okF; omega
  have h1 := fieldN_testBit u.toNat a 1 hok 0
  have h2 := fieldN_lt u.toNat a 1 hok
  simp only [Int.toNat_one, Int.toNat_natCast, Nat.add_zero] at h1 h2
  rw [Nat.testBit_zero] at h1
  generalize fieldN u.toNat (a : Int) 1 = q at *
  simp at h1
  rw [← h1]
  have : q = 0 ∨ q = 1 := by omega
  rcases this with rfl | rfl <;> rfl

set_option maxHeartbeats 1000000 in
theorem rnumber (n g c : Nat) (f : Nat → Bool) (xs : List Value) (w : World) (n2 : n ≤ 63) (hown : w.ownsRow 0 3 1 (.slice (some ⟨g, 0, none⟩) n c) n xs) (hreg : RegIs xs n f) :
    Calls Tryz.prog 98 #[.slice (some ⟨g, 0, none⟩) n c] w fun e w' => e = .returned (.int .u64 (numF f n : Nat)) ∧ w = w' := by
  have HO := Lib.hid (And.intro hown hreg)
  clear hown hreg
  go_enter Tryz.func98, Tryz.ntmps98
  go_wp2
  go_loop [3, 4] (fun v i => ∃ k : Nat, k ≤ n ∧ i = .int .i64 k ∧ v = .int .u64 (numF f k : Nat)) (fun _ i => n - (intOf i).toNat)
  case atStart => exact ⟨0, by omega, rfl, rfl⟩
  case round =>
    obtain ⟨k, hk, rfl, rfl⟩ := hrel
    by_cases hlt : k < n
    · have hc : w.cell? ⟨g, k, none⟩ = some (.int .i64 ((f k).toNat : Int)) := by
        rw [HO.out.1.cellAt k (by omega)]; exact HO.out.2.2 k hlt
      have h1 := bit_le (f k)
      have h2 := numF_lt f k
      have h3 : (2 : Nat) ^ k ≤ 2 ^ 62 := Nat.pow_le_pow_right (by omega) (by omega)
      have hs : numF f (k + 1) = 2 * numF f k + (f k).toNat := rfl
      have HS := Lib.hid hs
      clear hs
      generalize numF f k = a at *
      have h4 : a < 4611686018427387904 := by omega
      clear h2 h3
      go_wp2
      go_round
      case rel => exact ⟨k + 1, by omega, by go_num, by rw [HS.out]; push_cast; rfl⟩
      case measure => simp [intOf]; omega
    · obtain rfl : k = n := by omega
      go_wp2
      go_ret
      exact ⟨rfl, rfl⟩

def bitsD (low : Bool) (u : UInt8) : List Bool := (List.range 8).map fun k => u.toNat.testBit (if low = true then k else 7 - k)
theorem bitsD_length (low : Bool) (u : UInt8) : (bitsD low u).length = 8 := by simp [bitsD]
theorem bitsD_at (low : Bool) (u : UInt8) (k : Nat) (h : k < 8) : (bitsD low u)[k]? = some (u.toNat.testBit (if low = true then k else 7 - k)) := by
  simp [bitsD, h]
def preB (low : Bool) (l : List UInt8) : List Bool := l.flatMap (bitsD low)
theorem preB_length (low : Bool) (l : List UInt8) : (preB low l).length = 8 * l.length := by
  induction l with
  | nil => rfl
  | cons u l ih => unfold preB at ih ⊢; rw [List.flatMap_cons, List.length_append, bitsD_length, ih, List.length_cons]; omega
theorem preB_next (low : Bool) (l : List UInt8) (i : Nat) (h : i < l.length) : preB low (l.take (i + 1)) = preB low (l.take i) ++ bitsD low l[i] := by
  unfold preB
  rw [List.take_add_one, List.getElem?_eq_getElem h, List.flatMap_append]
  congr 1
theorem wrap_small (n : Nat) (h : n ≤ 100000) : IntKind.i64.wrap (n : Int) = n := IntWalk.i64_in _ (by omega)

set_option maxRecDepth 100000 in
set_option maxHeartbeats 2000000 in
theorem rbits (s : ByteArray) (low : Bool) (w : World) (hs : s.size ≤ 2000) :
    Calls Tryz.prog 96 #[.string s, .bool low] w fun e w' => ∃ v : Value, e = .returned v ∧ w'.ownsRow w.heap.size 3 1 v (8 * s.size) ((preB low s.data.toList).map bv) ∧ Below w.heap.size w w' := by
  obtain ⟨i0, hi, hz0, hz1, hz2⟩ := info_parts infoInt
  have hsl : s.data.toList.length = s.size := by rw [Array.length_toList]; rfl
  have HSL := Lib.hid hsl
  clear hsl
  go_enter Tryz.func96, Tryz.ntmps96
  go_wp2
  go_loopw [5, 6] (fun v i wr => ∃ k : Nat, k ≤ s.size ∧ i = .int .i64 k ∧ wr.ownsRow w.heap.size 3 1 v (8 * k) ((preB low (s.data.toList.take k)).map bv) ∧ Below w.heap.size w wr) (fun _ i _ => s.size - (intOf i).toNat)
  case atStart => exact ⟨0, by omega, rfl, World.ownsRow_nil _ _ _ _, Below.refl _ _⟩
  case round =>
    obtain ⟨i, hk, rfl, hown, B1⟩ := hrel
    by_cases hlt : i < s.size
    · obtain ⟨u, hu⟩ : ∃ u, s[i] = u := ⟨_, rfl⟩
      have hnx : preB low (s.data.toList.take (i + 1)) = preB low (s.data.toList.take i) ++ bitsD low u := by
        rw [preB_next low _ i (by rw [HSL.out]; exact hlt), ← hu]; rfl
      have HNX := Lib.hid hnx
      clear hnx
      have hpl : (preB low (s.data.toList.take i)).length = 8 * i := by rw [preB_length, List.length_take, HSL.out]; omega
      generalize preB low (s.data.toList.take i) = P at *
      go_wp2_with fail
      go_loopw [5, 7] (fun v j wr => ∃ k : Nat, k ≤ 8 ∧ j = .int .i64 k ∧ wr.ownsRow w.heap.size 3 1 v (8 * i + k) ((P ++ (bitsD low u).take k).map bv) ∧ Below w.heap.size w wr) (fun _ j _ => 8 - (intOf j).toNat)
      case atStart => exact ⟨0, by omega, rfl, by simpa using hown, B1⟩
      case round =>
        clear hown B1
        obtain ⟨k, hk8, rfl, hown, B1⟩ := hrel
        by_cases hlt2 : k < 8
        · obtain ⟨a, ha, ha7, hae⟩ : ∃ a : Nat, (a : Int) = (if low = true then (k : Int) else 7 - (k : Int)) ∧ a ≤ 7 ∧ a = (if low = true then k else 7 - k) := ⟨if low = true then k else 7 - k, by split <;> omega, by split <;> omega, rfl⟩
          have hbit := bitsD_at low u k hlt2
          rw [← hae] at hbit
          have hnx2 : P ++ (bitsD low u).take (k + 1) = (P ++ (bitsD low u).take k) ++ [u.toNat.testBit a] := by rw [List.take_add_one, hbit]; simp
          have hf1 := field1 u a ha7
          have hq := bit_le (u.toNat.testBit a)
          have hPl : (P ++ (bitsD low u).take k).length = 8 * i + k := by rw [List.length_append, List.length_take, bitsD_length, hpl]; omega
          generalize u.toNat.testBit a = p at *
          have HN2 := Lib.hid hnx2
          generalize P ++ (bitsD low u).take k = R at *
          have HF := Lib.hid hf1
          clear hnx2 hf1 hbit hae
          cases hlow : low
          · rw [hlow] at ha
            simp only [Bool.false_eq_true, if_false] at ha
            rw [hlow] at HN2
            subst hlow
            have hfl : fieldN u.toNat (7 - (k : Int)) 1 = p.toNat := by rw [← HF.out]; congr 1; omega
            have HFL := Lib.hid hfl
            clear hfl
            have hw0 : IntKind.u64.wrap (u.toNat : Int) = (u.toNat : Int) := by rw [IntKind.wrap_u64]; have := u.toNat_lt; omega
            go_wp2_with fail
            clear hw0
            have hw1 : IntKind.i64.wrap (p.toNat : Int) = (p.toNat : Int) := IntWalk.i64_in _ (by omega)
            refine (rfield_any u.toNat (7 - (k : Int)) 1 _ (by have := u.toNat_lt; omega)).mono ?_
            rintro e w2 ⟨rfl, rfl⟩
            rw [HFL.out]
            go_wp2_with (first
              | (at_builtin; refine wpList_append_own _ rfl _ _ 46 rfl w.heap.size 3 i0 (.int .i64 0) 1 8 Tryz.underlying46 hi hz0 hz1 hz2 rfl (by decide) _ _ _ rfl (hown.alloc _) ⟨wr.heap.size, 0, none⟩ 1 1 [bv p] rfl rfl ?c1 ?c2 ?c3 ?c4 ?c5 ?_))
            case c1 =>
              intro a u ha
              match a, ha with
              | 0, ha => simp at ha; subst ha; simp [Addr.add, bv]
            case c2 => intro u hu; simp at hu; subst hu; rfl
            case c3 => unfold maxLen; omega
            case c4 => omega
            case c5 => have := B1.size; simp; omega
            intro v' w3 hown3 hgrow3 _
            have RR := Lib.hid (And.intro (show w3.ownsRow w.heap.size 3 1 v' (8 * i + (k + 1)) ((P ++ List.take (k + 1) (bitsD false u)).map bv) by rw [HN2.out, List.map_append, ← Nat.add_assoc]; exact hown3)
              ((B1.alloc B1.size _).grown hgrow3 (by have := B1.size; simp; omega) (fun g hg => (hown.lt g hg).1)))
            clear hown3 hgrow3 hown B1
            go_wp2
            go_roundw
            case rel => exact ⟨k + 1, by omega, by go_num, RR.out.1, RR.out.2⟩
            case measure => simp [intOf]; omega
          · rw [hlow] at ha
            simp only [if_true] at ha
            rw [hlow] at HN2
            subst hlow
            have hfl : fieldN u.toNat (k : Int) 1 = p.toNat := by rw [← HF.out]; congr 1; omega
            have HFL := Lib.hid hfl
            clear hfl
            have hw0 : IntKind.u64.wrap (u.toNat : Int) = (u.toNat : Int) := by rw [IntKind.wrap_u64]; have := u.toNat_lt; omega
            go_wp2_with fail
            clear hw0
            have hw1 : IntKind.i64.wrap (p.toNat : Int) = (p.toNat : Int) := IntWalk.i64_in _ (by omega)
            refine (rfield_any u.toNat (k : Int) 1 _ (by have := u.toNat_lt; omega)).mono ?_
            rintro e w2 ⟨rfl, rfl⟩
            rw [HFL.out]
            go_wp2_with (first
              | (at_builtin; refine wpList_append_own _ rfl _ _ 46 rfl w.heap.size 3 i0 (.int .i64 0) 1 8 Tryz.underlying46 hi hz0 hz1 hz2 rfl (by decide) _ _ _ rfl (hown.alloc _) ⟨wr.heap.size, 0, none⟩ 1 1 [bv p] rfl rfl ?c1 ?c2 ?c3 ?c4 ?c5 ?_))
            case c1 =>
              intro a u ha
              match a, ha with
              | 0, ha => simp at ha; subst ha; simp [Addr.add, bv]
            case c2 => intro u hu; simp at hu; subst hu; rfl
            case c3 => unfold maxLen; omega
            case c4 => omega
            case c5 => have := B1.size; simp; omega
            intro v' w3 hown3 hgrow3 _
            have RR := Lib.hid (And.intro (show w3.ownsRow w.heap.size 3 1 v' (8 * i + (k + 1)) ((P ++ List.take (k + 1) (bitsD true u)).map bv) by rw [HN2.out, List.map_append, ← Nat.add_assoc]; exact hown3)
              ((B1.alloc B1.size _).grown hgrow3 (by have := B1.size; simp; omega) (fun g hg => (hown.lt g hg).1)))
            clear hown3 hgrow3 hown B1
            go_wp2
            go_roundw
            case rel => exact ⟨k + 1, by omega, by go_num, RR.out.1, RR.out.2⟩
            case measure => simp [intOf]; omega
        · obtain rfl : k = 8 := by omega
          have RR := Lib.hid (And.intro hown B1)
          clear hown B1
          go_wp2
          go_roundw
          case rel => exact ⟨i + 1, by omega, by go_num, by rw [HNX.out]; have := RR.out.1; rwa [List.take_of_length_le (by rw [bitsD_length]; omega)] at this, RR.out.2⟩
          case measure => simp [intOf]; omega
    · obtain rfl : i = s.size := by omega
      rw [List.take_of_length_le (by rw [HSL.out]; omega)] at hown
      have RR := Lib.hid (And.intro hown B1)
      clear hown B1
      go_wp2
      go_ret
      exact ⟨_, rfl, RR.out.1, RR.out.2⟩

end Go.Proofs.YtgifjnniohcacaaGreat

/-
  The reference's Sum16 and Guard.
-/
namespace Go.Proofs.YtgifjnniohcacaaGreat
open Go.RowKit

theorem size_is3 (l : List UInt8) : (ByteArray.mk l.toArray).size = l.length := by simp [ByteArray.size]
theorem own_zero {w : World} {base : Nat} {e : TypeId} {size n : Nat} {v : Value} {xs : List Value} (h : w.ownsRow base e size v n xs) : w.ownsRow 0 e size v n xs := by
  refine ⟨h.1, ?_⟩
  rcases h.2 with hn | ⟨g, cap, cur, hv, hg, rest⟩
  · exact .inl hn
  · exact .inr ⟨g, cap, cur, hv, Nat.zero_le _, rest⟩
theorem own_slice {w : World} {base : Nat} {e : TypeId} {size n : Nat} {v : Value} {xs : List Value} (h : w.ownsRow base e size v n xs) (hn : n ≠ 0) : ∃ g cap, v = .slice (some ⟨g, 0, none⟩) n cap ∧ base ≤ g := by
  rcases h.2 with ⟨_, h0⟩ | ⟨g, cap, cur, hv, hg, rest⟩
  · exact absurd h0 hn
  · exact ⟨g, cap, hv, hg⟩
theorem own_new (w : World) (e : TypeId) (cs : Array Value) (h : cs.size ≤ maxLen) : (w.alloc (.cells cs e)).ownsRow 0 e 1 (.slice (some ⟨w.heap.size, 0, none⟩) cs.size cs.size) cs.size cs.toList := by
  refine ⟨by simp, .inr ⟨w.heap.size, cs.size, cs, rfl, Nat.zero_le _, heap_alloc_new w _, Nat.le_refl _, h, by simp, ?_⟩⟩
  rw [Nat.mul_one, ← Array.length_toList, List.take_length]

theorem reg_step {w : Nat} (p x : BitVec w) (f : Nat → Bool) (b : Bool) (hw : 0 < w) (h : ∀ j, j < w → f j = x.getMsbD j) : ∀ j, j < w → stF w (fun j => p.getMsbD j) f b j = (st p x b).getMsbD j := by
  intro j hj
  have hm : x.msb = f 0 := by rw [h 0 hw, BitVec.msb]
  have hs : shF w f j = (x <<< 1).getMsbD j := by
    unfold shF
    rw [BitVec.getMsbD_shiftLeft]
    by_cases c : j + 1 < w
    · rw [if_pos c, h _ c]
    · rw [if_neg c, BitVec.getMsbD]
      simp; intro hc; omega
  unfold stF st
  rw [BitVec.getMsbD_xor, hs, hm]
  by_cases c : (f 0 ^^ b) = true
  · rw [if_pos c, if_pos c]
  · rw [if_neg c, if_neg c]; simp
theorem reg_fold {w : Nat} (p : BitVec w) (hw : 0 < w) (l : List Bool) : ∀ (x : BitVec w) (f : Nat → Bool), (∀ j, j < w → f j = x.getMsbD j) → ∀ j, j < w → (l.foldl (stF w (fun j => p.getMsbD j)) f) j = (l.foldl (st p) x).getMsbD j := by
  induction l with
  | nil => intro x f h; exact h
  | cons b l ih =>
    intro x f h
    simp only [List.foldl_cons]
    exact ih _ _ (reg_step p x f b hw h)
theorem bitsD_hi (u : UInt8) : bitsD false u = bitsHi u := by
  unfold bitsD bitsHi
  simp
theorem ones16 : ∀ j, j < 16 → (fun _ : Nat => true) j = (0xFFFF#16).getMsbD j := by decide
def turns16 : List Value := [.int .i64 0, .int .i64 0, .int .i64 0, .int .i64 1, .int .i64 0, .int .i64 0, .int .i64 0, .int .i64 0, .int .i64 0, .int .i64 0, .int .i64 1, .int .i64 0, .int .i64 0, .int .i64 0, .int .i64 0, .int .i64 1]
theorem bits16 : ∀ j : Fin 16, (List.map (fun b : Bool => (b.toNat : Int)) [false, false, false, true, false, false, false, false, false, false, true, false, false, false, false, true])[j]? = some (((0x1021#16).getMsbD j).toNat : Int) := by decide
theorem turns_reg : RegIs turns16 16 (fun j => (0x1021#16).getMsbD j) := by
  refine ⟨rfl, fun j hj => ?_⟩
  have h := bits16 ⟨j, hj⟩
  have e : turns16 = (List.map (fun b : Bool => (b.toNat : Int)) [false, false, false, true, false, false, false, false, false, false, true, false, false, false, false, true]).map (Value.int .i64) := rfl
  rw [e, List.getElem?_map]
  simp only [Fin.getElem?_fin] at h
  rw [h]; rfl
theorem sum16_num (l : List UInt8) (F : Nat → Bool) (h : F = (preB false l).foldl (stF 16 (fun j => (0x1021#16).getMsbD j)) (fun _ => true)) : numF F 16 = n16 (sum16 l) := by
  have hp : preB false l = l.flatMap bitsHi := by
    unfold preB
    rw [show bitsD false = bitsHi from funext bitsD_hi]
  have hf := reg_fold (0x1021#16) (by omega) (l.flatMap bitsHi) 0xFFFF#16 (fun _ => true) ones16
  rw [sum16_bits] at hf
  subst h
  rw [hp]
  exact numF_all (c16 l 0xFFFF#16) _ hf

set_option maxRecDepth 100000 in
set_option maxHeartbeats 1000000 in
theorem rsum16 (s : ByteArray) (w : World) (h1 : 1 ≤ s.size) (h2 : s.size ≤ 2000) :
    Calls Tryz.prog 78 #[.string s] w fun e w' => e = .returned (.int .u64 (n16 (sum16 s.data.toList) : Nat)) ∧ Below w.heap.size w w' := by
  go_enter Tryz.func78, Tryz.ntmps78
  go_wp2_with fail
  have T1 : (w.alloc (Obj.cells #[Value.int IntKind.i64 0, Value.int IntKind.i64 0, Value.int IntKind.i64 0, Value.int IntKind.i64 1, Value.int IntKind.i64 0, Value.int IntKind.i64 0, Value.int IntKind.i64 0, Value.int IntKind.i64 0, Value.int IntKind.i64 0, Value.int IntKind.i64 0, Value.int IntKind.i64 1, Value.int IntKind.i64 0, Value.int IntKind.i64 0, Value.int IntKind.i64 0, Value.int IntKind.i64 0, Value.int IntKind.i64 1] 3)).ownsRow 0 3 1 (.slice (some ⟨w.heap.size, 0, none⟩) 16 16) 16 turns16 := own_new w 3 #[Value.int IntKind.i64 0, Value.int IntKind.i64 0, Value.int IntKind.i64 0, Value.int IntKind.i64 1, Value.int IntKind.i64 0, Value.int IntKind.i64 0, Value.int IntKind.i64 0, Value.int IntKind.i64 0, Value.int IntKind.i64 0, Value.int IntKind.i64 0, Value.int IntKind.i64 1, Value.int IntKind.i64 0, Value.int IntKind.i64 0, Value.int IntKind.i64 0, Value.int IntKind.i64 0, Value.int IntKind.i64 1] (by unfold maxLen; simp)
  have B1 := below_new (Below.refl _ w) (Obj.cells #[Value.int IntKind.i64 0, Value.int IntKind.i64 0, Value.int IntKind.i64 0, Value.int IntKind.i64 1, Value.int IntKind.i64 0, Value.int IntKind.i64 0, Value.int IntKind.i64 0, Value.int IntKind.i64 0, Value.int IntKind.i64 0, Value.int IntKind.i64 0, Value.int IntKind.i64 1, Value.int IntKind.i64 0, Value.int IntKind.i64 0, Value.int IntKind.i64 0, Value.int IntKind.i64 0, Value.int IntKind.i64 1] 3)
  generalize w.alloc (Obj.cells #[Value.int IntKind.i64 0, Value.int IntKind.i64 0, Value.int IntKind.i64 0, Value.int IntKind.i64 1, Value.int IntKind.i64 0, Value.int IntKind.i64 0, Value.int IntKind.i64 0, Value.int IntKind.i64 0, Value.int IntKind.i64 0, Value.int IntKind.i64 0, Value.int IntKind.i64 1, Value.int IntKind.i64 0, Value.int IntKind.i64 0, Value.int IntKind.i64 0, Value.int IntKind.i64 0, Value.int IntKind.i64 1] 3) = wa at *
  refine (rbits s false _ h2).mono ?_
  rintro e w2 ⟨v, rfl, hown, hb2⟩
  obtain ⟨g, cap, rfl, hgb⟩ := own_slice hown (by omega)
  have T2 := Lib.hid (own_keepS T1 hb2)
  have O2 := Lib.hid (own_zero hown)
  have B2 := below_next B1 hb2
  clear T1 B1 hb2 hown
  go_wp2_with fail
  refine (rsum 16 (8 * s.size) g cap w.heap.size 16 (preB false s.data.toList) (fun j => (0x1021#16).getMsbD j) turns16 _ (by omega) (by omega) (by rw [preB_length, Array.length_toList]; rfl) (by omega) O2.out T2.out turns_reg).mono ?_
  rintro e w3 ⟨xs, rfl, hown3, hreg, hb3⟩
  have B3 := below_next B2 hb3
  obtain ⟨F, hF⟩ : ∃ F, F = (preB false s.data.toList).foldl (stF 16 (fun j => (0x1021#16).getMsbD j)) (fun _ => true) := ⟨_, rfl⟩
  rw [← hF] at hreg
  have O3 := Lib.hid (And.intro (own_zero hown3) hreg)
  have HF := Lib.hid hF
  clear hF hreg hown3 hb3 B2 O2 T2
  go_wp2_with fail
  refine (rnumber 16 _ 16 F xs _ (by omega) O3.out.1 O3.out.2).mono ?_
  rintro e w4 ⟨rfl, rfl⟩
  rw [sum16_num _ F HF.out]
  go_wp2_with fail
  go_ret
  exact ⟨rfl, B3⟩

theorem guard_num (n : Nat) (hn : n < 18446744073709551616) : (65535 - n16 (sum16 (putL n 6))) * 281474976710656 + n % 281474976710656 = guardN n := by
  have hc : n16 (check n) = 65535 - n16 (sum16 (putL n 6)) := by
    unfold check n16
    rw [BitVec.toNat_not]
  have hl := n16_lt (check n)
  unfold guardN withN
  rw [if_pos (by unfold okF; omega), ← hc]
  have e1 : (48 : Int).toNat = 48 := rfl
  have e2 : (16 : Int).toNat = 16 := rfl
  rw [e1, e2]
  omega

set_option maxHeartbeats 1000000 in
theorem rguard (n : Nat) (w : World) (hn : n < 18446744073709551616) :
    Calls Tryz.prog 48 #[.int .u64 n] w fun e w' => e = .returned (.int .u64 (guardN n : Nat)) ∧ Below w.heap.size w w' := by
  obtain ⟨r, hr, hr2⟩ : ∃ r : Nat, (n : Int) % 281474976710656 = (r : Int) ∧ r = n % 281474976710656 := ⟨n % 281474976710656, by omega, rfl⟩
  have hrl : r < 281474976710656 := by omega
  have hg := guard_num n hn
  rw [← hr2] at hg
  have hput : putL r 6 = putL n 6 := by rw [hr2]; exact putL_mod n 6 6 (by omega)
  rw [← hput] at hg
  have HG := Lib.hid hg
  have HP := Lib.hid hput
  clear hg hput hr2
  go_enter Tryz.func48, Tryz.ntmps48
  go_wp2_with fail
  refine (rput_any r 6 _ (by omega) (by omega) (by omega)).mono ?_
  rintro e w1 ⟨rfl, hb1⟩
  rw [show clamp8 6 = 6 from rfl]
  go_wp2_with fail
  refine (rsum16 _ _ (by rw [size_is3, putL_length]; omega) (by rw [size_is3, putL_length]; omega)).mono ?_
  rintro e w2 ⟨rfl, hb2⟩
  rw [show (ByteArray.mk (putL r 6).toArray).data.toList = putL r 6 by simp]
  have hl := n16_lt (sum16 (putL r 6))
  have hgc : ((65535 - (n16 (sum16 (putL r 6)) : Int)) * 281474976710656 + (r : Int)) = ((guardN n : Nat) : Int) := by rw [← HG.out]; omega
  generalize n16 (sum16 (putL r 6)) = c at *
  have B2 := below_next hb1 hb2
  clear hb1 hb2
  have HGC := Lib.hid hgc
  clear hgc
  go_wp2_with fail
  rw [HGC.out]
  go_ret
  exact ⟨rfl, B2⟩

end Go.Proofs.YtgifjnniohcacaaGreat
