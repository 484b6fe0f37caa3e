/-
  PkBt: FlXa, SumP2, Sum4, Sum5, FpE.
-/
import Derived.Test.YtjbhallhmnahbaaGreatPkBs
import Derived.Test.YtjbhallhmnahbaaGreatPkAu
import Derived.Test.YtjbhallhmnahbaaGreatPkBh
import Derived.Test.YtjbhallhmnahbaaGreatPkAi

set_option linter.unusedVariables false

/-
  FlatAlike: the law's small; a list at work, whatever index it is given.
-/
namespace Go.Proofs.YtjbhallhmnahbaaGreat
open Go.RowKit
set_option linter.unusedVariables false

def smallC (r l s p : Int) (key : Nat) : CfgZ := ⟨1 + mx r % 3, 1 + mx l % 5, mx s % 5, 1 + mx p % 4, key⟩
set_option maxRecDepth 100000 in
set_option maxHeartbeats 4000000 in
theorem small09 (r l s p : Int) (key : Nat) (w : World) : Calls Tryz.prog 8 #[.agg #[.int .i64 r, .int .i64 l, .int .i64 s, .int .i64 p, .int .u64 (key : Int)]] w fun e w' => e = .returned (cfgV (smallC r l s p key)) ∧ Gr [] w w' := by
  have hmx := max0 Tryz.prog
  have h0 := mx_nonneg r
  have h1 := mx_nonneg l
  have h2 := mx_nonneg s
  have h3 := mx_nonneg p
  obtain ⟨r1, e1⟩ : ∃ x, x = mx r % 3 := ⟨_, rfl⟩
  obtain ⟨l1, e2⟩ : ∃ x, x = mx l % 5 := ⟨_, rfl⟩
  obtain ⟨s1, e3⟩ : ∃ x, x = mx s % 5 := ⟨_, rfl⟩
  obtain ⟨p1, e4⟩ : ∃ x, x = mx p % 4 := ⟨_, rfl⟩
  have b1 : IntKind.i64.wrap (1 + mx r % 3) = 1 + mx r % 3 := IntWalk.i64_in _ (by omega)
  have b2 : IntKind.i64.wrap (1 + mx l % 5) = 1 + mx l % 5 := IntWalk.i64_in _ (by omega)
  have b4 : IntKind.i64.wrap (1 + mx p % 4) = 1 + mx p % 4 := IntWalk.i64_in _ (by omega)
  have hb1 := (Holds.new w #[.int .i64 r, .int .i64 l, .int .i64 s, .int .i64 p, .int .u64 (key : Int)] 24).alloc (Obj.cells #[.int .i64 0, .int .i64 0, .int .i64 0, .int .i64 0, .int .u64 0] 26)
  have hb2 := Holds.new (w.alloc (Obj.cells #[.int .i64 r, .int .i64 l, .int .i64 s, .int .i64 p, .int .u64 (key : Int)] 24)) #[.int .i64 0, .int .i64 0, .int .i64 0, .int .i64 0, .int .u64 0] 26
  rw [World.size_alloc] at hb2
  have hg := ((Gr.refl [] w).alloc (Obj.cells #[.int .i64 r, .int .i64 l, .int .i64 s, .int .i64 p, .int .u64 (key : Int)] 24)).alloc (Obj.cells #[.int .i64 0, .int .i64 0, .int .i64 0, .int .i64 0, .int .u64 0] 26)
  have H := Lib.hid (And.intro hb1 (And.intro hb2 hg))
  unfold cfgV smallC
  clear hb1 hb2 hg e1 e2 e3 e4
  go_enter Tryz.func8, Tryz.ntmps8
  go_upto_region 1 with fail
  generalize (w.alloc (Obj.cells #[.int .i64 r, .int .i64 l, .int .i64 s, .int .i64 p, .int .u64 (key : Int)] 24)).alloc (Obj.cells #[.int .i64 0, .int .i64 0, .int .i64 0, .int .i64 0, .int .u64 0] 26) = w1 at *
  obtain ⟨b, hb⟩ : ∃ b, w.heap.size = b := ⟨_, rfl⟩
  have HW := Lib.hid (show w.heap.size ≤ b by omega)
  rw [hb] at H ⊢
  clear hb
  have c0 : w1.cell? ⟨b, 0, none⟩ = some (.int .i64 r) := H.out.1.cell 0
  have c1 : w1.cell? ⟨b, 1, none⟩ = some (.int .i64 l) := H.out.1.cell 1
  have c2 : w1.cell? ⟨b, 2, none⟩ = some (.int .i64 s) := H.out.1.cell 2
  have c3 : w1.cell? ⟨b, 3, none⟩ = some (.int .i64 p) := H.out.1.cell 3
  have c4 : w1.cell? ⟨b, 4, none⟩ = some (.int .u64 (key : Int)) := H.out.1.cell 4
  obtain ⟨b2', hb2'⟩ : ∃ b2', b + 1 = b2' := ⟨_, rfl⟩
  have HW2 := Lib.hid (show w.heap.size ≤ b2' by have := HW.out; omega)
  rw [hb2'] at H ⊢
  clear hb2'
  have d0 : w1.cell? ⟨b2', 0, none⟩ = some (.int .i64 0) := H.out.2.1.cell 0
  have d1 : w1.cell? ⟨b2', 1, none⟩ = some (.int .i64 0) := H.out.2.1.cell 1
  have d2 : w1.cell? ⟨b2', 2, none⟩ = some (.int .i64 0) := H.out.2.1.cell 2
  have d3 : w1.cell? ⟨b2', 3, none⟩ = some (.int .i64 0) := H.out.2.1.cell 3
  have d4 : w1.cell? ⟨b2', 4, none⟩ = some (.int .u64 0) := H.out.2.1.cell 4
  have f0 := H.out.2.1.frozen 0
  have f1 := H.out.2.1.frozen 1
  have f2 := H.out.2.1.frozen 2
  have f3 := H.out.2.1.frozen 3
  have f4 := H.out.2.1.frozen 4
  have HF := Lib.hid (((((H.out.2.2.setCell (p := ⟨b2', 0, none⟩) (.inr HW2.out) (.int .i64 (1 + mx r % 3))).setCell (p := ⟨b2', 1, none⟩) (.inr HW2.out) (.int .i64 (1 + mx l % 5))).setCell (p := ⟨b2', 2, none⟩) (.inr HW2.out) (.int .i64 (mx s % 5))).setCell (p := ⟨b2', 3, none⟩) (.inr HW2.out) (.int .i64 (1 + mx p % 4))).setCell (p := ⟨b2', 4, none⟩) (.inr HW2.out) (.int .u64 (key : Int)))
  go_wp2_with fail
  exact bodyPost_ret (v := .agg #[.int .i64 (1 + mx r % 3), .int .i64 (1 + mx l % 5), .int .i64 (mx s % 5), .int .i64 (1 + mx p % 4), .int .u64 (key : Int)]) (by simp [results, Tryz.results8, go_sem, *]) rfl ⟨rfl, HF.out⟩
theorem smallC_ok (r l s p : Int) (key : Nat) (hk : key < 18446744073709551616) : OkC (smallC r l s p key) ∧ (smallC r l s p key).r ≤ 3 ∧ (smallC r l s p key).l ≤ 5 ∧ sizeC (smallC r l s p key) ≤ 37 := by
  have h0 := mx_nonneg r
  have h1 := mx_nonneg l
  have h2 := mx_nonneg s
  have h3 := mx_nonneg p
  have e1 : (smallC r l s p key).r = 1 + mx r % 3 := rfl
  have e2 : (smallC r l s p key).l = 1 + mx l % 5 := rfl
  have e3 : (smallC r l s p key).s = mx s % 5 := rfl
  have e4 : (smallC r l s p key).psi = 1 + mx p % 4 := rfl
  have ok : okP (smallC r l s p key) := by unfold okP; omega
  obtain ⟨_, hs⟩ := regS_ok ok
  have hrs : 0 ≤ regS (smallC r l s p key) ∧ regS (smallC r l s p key) ≤ 12 := by rw [hs]; omega
  have hm : (smallC r l s p key).r * regS (smallC r l s p key) ≤ 3 * 12 := Int.mul_le_mul (by omega) hrs.2 hrs.1 (by omega)
  have hC : OkC (smallC r l s p key) := ⟨by omega, by omega, ok, hk, by omega⟩
  exact ⟨hC, by omega, by omega, by rw [hC.size]; omega⟩
def FQ (C : CfgZ) (A : FlA) (a : DevA) (F : Nat → Nat → Nat) (n : Nat) (w : World) : Prop := ∃ V, FL C A a true F V (200000 + 4200 * n) w
section
variable {w w' : World} {A : FlA} {a : DevA} {C : CfgZ} {F F' : Nat → Nat → Nat} {n : Nat}
theorem FQ.gr {bs : List Nat} (h : FQ C A a F n w) (k : Gr bs w w') (hn : ∀ x ∈ A.all (cR C) ++ a.all, x ∉ bs) : FQ C A a F n w' := h.elim fun V h => ⟨V, h.gr k hn⟩
theorem FQ.gr0 (h : FQ C A a F n w) (k : Gr [] w w') : FQ C A a F n w' := h.elim fun V h => ⟨V, h.gr0 k⟩
theorem FQ.lt (h : FQ C A a F n w) : ∀ x ∈ A.all (cR C) ++ a.all, x < w.heap.size := h.elim fun V h => h.lt
theorem FQ.more {m : Nat} (h : FQ C A a F n w) (hm : n ≤ m) : FQ C A a F m w := h.elim fun V h => ⟨V, h.more (by omega)⟩
end
end Go.Proofs.YtjbhallhmnahbaaGreat

/-
  Plain lemmas on the reference's register of 32 places: the lowest bit first.
-/
namespace Go.Proofs.YtjbhallhmnahbaaGreat
open Go.RowKit

def stL (p x : BitVec 32) (b : Bool) : BitVec 32 := (x >>> 1) ^^^ (if (x.getLsbD 0 ^^ b) = true then p else 0#32)
theorem st32 (x : BitVec 32) (b : Bool) : stL 0x82F63B78#32 x b = s32 x ^^^ (if b = true then 0x82F63B78#32 else 0#32) := by
  unfold stL s32
  rw [ite_xor, BitVec.xor_assoc]
def it32 : Nat → BitVec 32 → BitVec 32
  | 0, x => x
  | n + 1, x => it32 n (s32 x)
theorem fold32 (l : List Bool) : ∀ (x y : BitVec 32), l.foldl (stL 0x82F63B78#32) (x ^^^ y) = it32 l.length x ^^^ l.foldl (stL 0x82F63B78#32) y := by
  induction l with
  | nil => intro x y; rfl
  | cons b l ih =>
    intro x y
    have e : stL 0x82F63B78#32 (x ^^^ y) b = s32 x ^^^ stL 0x82F63B78#32 y b := by
      rw [st32, st32, s32_xor, BitVec.xor_assoc]
    simp only [List.foldl_cons, List.length_cons, it32]
    rw [e, ih]
theorem byte0_32 : ∀ n : Fin 256, (bitsLo (UInt8.ofNat n)).foldl (stL 0x82F63B78#32) 0#32 = b32 0#32 (UInt8.ofNat n) := by decide +kernel
theorem byte32 (x : BitVec 32) (u : UInt8) : (bitsLo u).foldl (stL 0x82F63B78#32) x = b32 x u := by
  have h0 := byte0_32 ⟨u.toNat, u.toNat_lt⟩
  have hu : UInt8.ofNat u.toNat = u := by simp
  simp only [hu] at h0
  have h1 := fold32 (bitsLo u) x 0#32
  rw [BitVec.xor_zero, h0] at h1
  rw [h1]
  have h2 := b32_xor x 0#32 0 u
  rw [BitVec.xor_zero, show (0 : UInt8) ^^^ u = u by simp] at h2
  rw [h2]
  congr 1
  have : (bitsLo u).length = 8 := by simp [bitsLo]
  rw [this]
  unfold b32
  simp [it32]
theorem sum32_bits (l : List UInt8) : ∀ x : BitVec 32, (l.flatMap bitsLo).foldl (stL 0x82F63B78#32) x = c32 l x := by
  induction l with
  | nil => intro x; rfl
  | cons u l ih =>
    intro x
    rw [List.flatMap_cons, List.foldl_append, byte32, ih]
    rfl
theorem reg_step32 (p x : BitVec 32) (f : Nat → Bool) (b : Bool) (h : ∀ j, j < 32 → f j = x.getLsbD j) : ∀ j, j < 32 → stF 32 (fun j => p.getLsbD j) f b j = (stL p x b).getLsbD j := by
  intro j hj
  have hm : x.getLsbD 0 = f 0 := (h 0 (by omega)).symm
  have hs : shF 32 f j = (x >>> 1).getLsbD j := by
    unfold shF
    rw [BitVec.getLsbD_ushiftRight, Nat.add_comm 1 j]
    by_cases c : j + 1 < 32
    · rw [if_pos c, h _ c]
    · rw [if_neg c, BitVec.getLsbD_of_ge _ _ (by omega)]
  unfold stF stL
  rw [BitVec.getLsbD_xor, hs, hm]
  by_cases c : (f 0 ^^ b) = true
  · rw [if_pos c, if_pos c]
  · rw [if_neg c, if_neg c]; simp
theorem reg_fold32 (p : BitVec 32) (l : List Bool) : ∀ (x : BitVec 32) (f : Nat → Bool), (∀ j, j < 32 → f j = x.getLsbD j) → ∀ j, j < 32 → (l.foldl (stF 32 (fun j => p.getLsbD j)) f) j = (l.foldl (stL p) x).getLsbD j := by
  induction l with
  | nil => intro x f h; exact h
  | cons b l ih =>
    intro x f h
    simp only [List.foldl_cons]
    exact ih _ _ (reg_step32 p x f b h)
theorem bitsD_lo (u : UInt8) : bitsD true u = bitsLo u := by
  unfold bitsD bitsLo
  simp
theorem ones32 : ∀ j, j < 32 → (fun _ : Nat => true) j = (0xFFFFFFFF#32).getLsbD j := by decide
theorem sum32_num (l : List UInt8) (F : Nat → Bool) (h : F = (preB true l).foldl (stF 32 (fun j => (0x82F63B78#32).getLsbD j)) (fun _ => true)) : numF (fun k => !F (31 - k)) 32 = n32 (sum32 l) := by
  have hp : preB true l = l.flatMap bitsLo := by
    unfold preB
    rw [show bitsD true = bitsLo from funext bitsD_lo]
  have hf := reg_fold32 (0x82F63B78#32) (l.flatMap bitsLo) 0xFFFFFFFF#32 (fun _ => true) ones32
  rw [sum32_bits, ← hp, ← h] at hf
  refine numF_all (sum32 l) _ (fun j hj => ?_)
  unfold sum32
  rw [BitVec.getMsbD, decide_eq_true hj, Bool.true_and, BitVec.getLsbD_not, decide_eq_true (show 32 - 1 - j < 32 by omega), Bool.true_and, show 32 - 1 - j = 31 - j by omega, hf (31 - j) (by omega)]
theorem fieldN1 (n a : Nat) (h : a ≤ 63) : fieldN n (a : Int) 1 = (n.testBit a).toNat := by
  have hok : okF (a : Int) 1 := by unfold okF; omega
  have h1 := fieldN_testBit n a 1 hok 0
  have h2 := fieldN_lt n a 1 hok
  simp only [Int.toNat_one, Int.toNat_natCast, Nat.add_zero] at h1 h2
  rw [Nat.testBit_zero] at h1
  generalize fieldN n (a : Int) 1 = q at *
  simp at h1
  rw [← h1]
  have : q = 0 ∨ q = 1 := by omega
  rcases this with rfl | rfl <;> rfl

end Go.Proofs.YtjbhallhmnahbaaGreat

/-
  The reference's Sum of no bits; Sum16 and Sum32 of every text.
-/
namespace Go.Proofs.YtjbhallhmnahbaaGreat
open Go.RowKit

set_option maxRecDepth 100000 in
set_option maxHeartbeats 2000000 in
theorem rsum_nil (n tb tc : Nat) (_t : Nat → Bool) (xt : List Value) (w : World) (n1 : 1 ≤ n) (n2 : n ≤ 64)
    (_ht : w.ownsRow 0 3 1 (.slice (some ⟨tb, 0, none⟩) n tc) n xt) :
    Calls Tryz.prog 157 #[.slice none 0 0, .slice (some ⟨tb, 0, none⟩) n tc] w fun e w' => ∃ xs : List Value, e = .returned (.slice (some ⟨w.heap.size, 0, none⟩) n n) ∧
      w'.ownsRow w.heap.size 3 1 (.slice (some ⟨w.heap.size, 0, none⟩) n n) n xs ∧ RegIs xs n (fun _ => true) ∧ Below w.heap.size w w' := by
  obtain ⟨i0, hi, hz0, hz1, hz2⟩ := info_parts infoInt
  clear _ht
  go_enter Tryz.func157, Tryz.ntmps157
  go_wp2_with (refine wpList_make_full _ rfl _ _ 61 rfl w.heap.size 3 i0 (.int .i64 0) 1 Tryz.underlying61 hi hz0 hz1 .i64 .i64 _ _ n rfl rfl rfl rfl (by rw [hz2]; omega) (by unfold maxLen; omega) (by simp) ?_; intro wm hown hgrow; have B1 := make_below hgrow; clear hgrow)
  generalize (madeCells (Value.cells (.int .i64 0)) (n * 1)).toList = xs0 at *
  go_loopw [6] (fun i wr => ∃ (k : Nat) (xs : List Value), k ≤ n ∧ i = .int .i64 k ∧ wr.ownsRow w.heap.size 3 1 (.slice (some ⟨w.heap.size, 0, none⟩) n n) n xs ∧ (∀ j, j < k → xs[j]? = some (bv true)) ∧ Below w.heap.size w wr) (fun i _ => n - (intOf i).toNat)
  case atStart => exact ⟨0, xs0, by omega, rfl, hown, fun p hp => by omega, B1⟩
  case round =>
    clear hown B1
    obtain ⟨k, xs, hk, rfl, hown, hdone, B2⟩ := hrel
    have hx : xs.length = n := by simpa using hown.1
    by_cases hlt : k < n
    · have hst := hown.stored k (.int .i64 1)
      have hc := hown.cellAt k (by omega)
      rw [List.getElem?_eq_getElem (by omega)] at hc
      have hf := hown.frozenAt k
      have hnext : ∀ p, p < k + 1 → (xs.set k (.int .i64 1))[p]? = some (bv true) := by
        intro p hp
        by_cases e : p = k
        · subst e; rw [List.getElem?_set_self (by omega)]; rfl
        · rw [List.getElem?_set_ne (fun h => e h.symm)]; exact hdone p (by omega)
      have RR := Lib.hid (And.intro hst.1 (And.intro hnext (B2.setCell (p := ⟨w.heap.size, k, none⟩) (by simp) (.int .i64 1))))
      generalize xs[k] = u at *
      clear hst hnext hdone hown B2
      go_wp2
      go_roundw
      case rel => exact ⟨k + 1, _, by omega, by go_num, RR.out.1, RR.out.2.1, RR.out.2.2⟩
      case measure => simp [intOf]; omega
    · have hr1 : RegIs xs n (fun _ => true) := ⟨hx, fun j hj => hdone j (by omega)⟩
      have RR := Lib.hid (And.intro hown (And.intro hr1 B2))
      clear hdone hown hx hr1 B2
      go_wp2
      go_rounds 1
      go_ret
      exact ⟨xs, rfl, RR.out.1, RR.out.2.1, RR.out.2.2⟩
theorem rsum_any (n L tb tc : Nat) (lv : Value) (ls : List Bool) (t : Nat → Bool) (xt : List Value) (w : World) (n1 : 1 ≤ n) (n2 : n ≤ 64) (hL : ls.length = L) (hL2 : L ≤ 100000)
    (hl : w.ownsRow 0 3 1 lv L (ls.map bv)) (ht : w.ownsRow 0 3 1 (.slice (some ⟨tb, 0, none⟩) n tc) n xt) (hxt : RegIs xt n t) :
    Calls Tryz.prog 157 #[lv, .slice (some ⟨tb, 0, none⟩) n tc] w fun e w' => ∃ xs : List Value, e = .returned (.slice (some ⟨w.heap.size, 0, none⟩) n n) ∧
      w'.ownsRow w.heap.size 3 1 (.slice (some ⟨w.heap.size, 0, none⟩) n n) n xs ∧ RegIs xs n (ls.foldl (stF n t) (fun _ => true)) ∧ Below w.heap.size w w' := by
  have hl' := hl
  rcases hl.2 with ⟨rfl, h0⟩ | ⟨g, cap, cur, rfl, _⟩
  · have : ls = [] := List.length_eq_zero_iff.1 (by omega)
    subst this
    exact rsum_nil n tb tc t xt w n1 n2 ht
  · exact rsum n L g cap tb tc ls t xt w n1 n2 hL hL2 hl' ht hxt

end Go.Proofs.YtjbhallhmnahbaaGreat

/-
  The reference's Sum32.
-/
namespace Go.Proofs.YtjbhallhmnahbaaGreat
open Go.RowKit

def polyB (j : Nat) : Bool := (0x82F63B78#32).getLsbD j
def listB (f : Nat → Bool) (k : Nat) : List Value := ((List.range k).map f).map bv
theorem listB_next (f : Nat → Bool) (k : Nat) : listB f (k + 1) = listB f k ++ [bv (f k)] := by
  unfold listB
  rw [List.range_succ, List.map_append, List.map_append]; rfl
theorem listB_reg (f : Nat → Bool) (k : Nat) : RegIs (listB f k) k f := by
  refine ⟨by simp [listB], fun j hj => ?_⟩
  simp [listB, hj]
theorem polyF (k : Nat) (h : k ≤ 31) (w : World) : Calls Tryz.prog 155 #[.int .u64 2197175160, .int .i64 (k : Int), .int .i64 1] w fun e w' => e = .returned (.int .u64 ((polyB k).toNat : Int)) ∧ w = w' := by
  have h1 := rfield_any 2197175160 (k : Int) 1 w (by omega)
  rw [fieldN1 _ _ (by omega)] at h1
  exact h1

set_option maxRecDepth 100000 in
set_option maxHeartbeats 2000000 in
theorem rsum32 (s : ByteArray) (w : World) (h2 : s.size ≤ 2000) :
    Calls Tryz.prog 105 #[.string s] w fun e w' => e = .returned (.int .u64 (n32 (sum32 s.data.toList) : Nat)) ∧ Below w.heap.size w w' := by
  obtain ⟨i0, hi, hz0, hz1, hz2⟩ := info_parts infoInt
  go_enter Tryz.func105, Tryz.ntmps105
  go_wp2
  go_loopw [4, 5] (fun v i wr => ∃ k : Nat, k ≤ 32 ∧ i = .int .i64 k ∧ wr.ownsRow w.heap.size 3 1 v k (listB polyB k) ∧ Below w.heap.size w wr) (fun _ i _ => 32 - (intOf i).toNat)
  case atStart => exact ⟨0, by omega, rfl, World.ownsRow_nil _ _ _ _, Below.refl _ _⟩
  case round =>
    obtain ⟨k, hk8, rfl, hown, B1⟩ := hrel
    by_cases hlt2 : k < 32
    · have hnx := listB_next polyB k
      have HNX := Lib.hid hnx
      have HF := Lib.hid (polyF k (by omega))
      have hq := bit_le (polyB k)
      generalize polyB k = p at *
      clear hnx
      have hw1 : IntKind.i64.wrap (p.toNat : Int) = (p.toNat : Int) := IntWalk.i64_in _ (by omega)
      go_wp2_with fail
      refine (HF.out _).mono ?_
      rintro e w2 ⟨rfl, rfl⟩
      go_wp2_with (first
        | (at_builtin; refine wpList_append_own _ rfl _ _ 61 rfl w.heap.size 3 i0 (.int .i64 0) 1 8 Tryz.underlying61 hi hz0 hz1 hz2 rfl (by decide) _ _ _ rfl (hown.alloc _) ⟨wr.heap.size, 0, none⟩ 1 1 [bv p] rfl rfl ?c1 ?c2 ?c3 ?c4 ?c5 ?_))
      case c1 =>
        intro a u ha
        match a, ha with
        | 0, ha => simp at ha; subst ha; simp [Addr.add, bv]
      case c2 => intro u hu; simp at hu; subst hu; rfl
      case c3 => unfold maxLen; omega
      case c4 => omega
      case c5 => have := B1.size; simp; omega
      intro v' w3 hown3 hgrow3 _
      have RR := Lib.hid (And.intro (show w3.ownsRow w.heap.size 3 1 v' (k + 1) (listB polyB (k + 1)) by rw [HNX.out]; exact hown3)
        ((B1.alloc B1.size _).grown hgrow3 (by have := B1.size; simp; omega) (fun g hg => (hown.lt g hg).1)))
      clear hown3 hgrow3 hown B1
      go_wp2
      go_roundw
      case rel => exact ⟨k + 1, by omega, by go_num, RR.out.1, RR.out.2⟩
      case measure => simp [intOf]; omega
    · obtain rfl : k = 32 := by omega
      obtain ⟨g, cap, rfl, hgb⟩ := own_slice hown (by omega)
      have T1 := own_zero hown
      clear hown
      go_wp2_with fail
      refine (rbits s true _ h2).mono ?_
      rintro e w2 ⟨v, rfl, hown, hb2⟩
      have T2 := Lib.hid (own_keepS T1 hb2)
      have O2 := Lib.hid (own_zero hown)
      have B2 := below_next B1 hb2
      clear T1 B1 hb2 hown
      go_wp2_with fail
      refine (rsum_any 32 (8 * s.size) g cap v (preB true s.data.toList) polyB (listB polyB 32) _ (by omega) (by omega) (by rw [preB_length, Array.length_toList]; rfl) (by omega) O2.out T2.out (listB_reg polyB 32)).mono ?_
      rintro e w3 ⟨xs, rfl, hown3, hreg, hb3⟩
      have B3 := below_next B2 hb3
      obtain ⟨F, hF⟩ : ∃ F, F = (preB true s.data.toList).foldl (stF 32 polyB) (fun _ => true) := ⟨_, rfl⟩
      rw [← hF] at hreg
      have O3 := Lib.hid (And.intro (own_zero hown3) hreg)
      have HF := Lib.hid hF
      clear hF hreg hown3 hb3 B2 O2 T2
      generalize w2.heap.size = gr at *
      go_wp2_with fail
      go_loopw [9, 10] (fun v i wr => ∃ k : Nat, k ≤ 32 ∧ i = .int .i64 k ∧ wr.ownsRow w3.heap.size 3 1 v k (listB (fun j => !F (31 - j)) k) ∧ Below w3.heap.size w3 wr) (fun _ i _ => 32 - (intOf i).toNat)
      case atStart => exact ⟨0, by omega, rfl, World.ownsRow_nil _ _ _ _, Below.refl _ _⟩
      case round =>
        obtain ⟨k, hk8, rfl, hown, B1⟩ := hrel
        by_cases hlt2 : k < 32
        · have hnx := listB_next (fun j => !F (31 - j)) k
          have HNX := Lib.hid hnx
          clear hnx
          obtain ⟨m, hm, hm2⟩ : ∃ m : Nat, 31 - (k : Int) = (m : Int) ∧ m = 31 - k := ⟨31 - k, by omega, rfl⟩
          have hm3 : m < 32 := by omega
          have hc : wr.cell? ⟨gr, m, none⟩ = some (.int .i64 ((F m).toNat : Int)) := by
            rw [(own_keepS O3.out.1 B1).cellAt m (by omega)]; exact O3.out.2.2 m hm3
          have hq := bit_le (F m)
          have hneg : 1 - ((F m).toNat : Int) = ((!F m).toNat : Int) := by cases F m <;> rfl
          rw [← hm2] at HNX
          generalize (!F m) = p at *
          have HM := Lib.hid hm2
          clear hm2
          go_wp2_with (first
            | (at_builtin; refine wpList_append_own _ rfl _ _ 61 rfl w3.heap.size 3 i0 (.int .i64 0) 1 8 Tryz.underlying61 hi hz0 hz1 hz2 rfl (by decide) _ _ _ rfl (hown.alloc _) ⟨wr.heap.size, 0, none⟩ 1 1 [bv p] rfl rfl ?c1 ?c2 ?c3 ?c4 ?c5 ?_))
          case c1 =>
            intro a u ha
            match a, ha with
            | 0, ha => simp at ha; subst ha; simp [Addr.add, bv]
          case c2 => intro u hu; simp at hu; subst hu; rfl
          case c3 => unfold maxLen; omega
          case c4 => omega
          case c5 => have := B1.size; simp; omega
          intro v' w4 hown3 hgrow3 _
          have RR := Lib.hid (And.intro (show w4.ownsRow w3.heap.size 3 1 v' (k + 1) (listB (fun j => !F (31 - j)) (k + 1)) by rw [HNX.out]; exact hown3)
            ((B1.alloc B1.size _).grown hgrow3 (by have := B1.size; simp; omega) (fun g hg => (hown.lt g hg).1)))
          clear hown3 hgrow3 hown B1
          go_wp2
          go_roundw
          case rel => exact ⟨k + 1, by omega, by go_num, RR.out.1, RR.out.2⟩
          case measure => simp [intOf]; omega
        · obtain rfl : k = 32 := by omega
          obtain ⟨g2, cap2, rfl, hgb2⟩ := own_slice hown (by omega)
          have T4 := Lib.hid (own_zero hown)
          have B4 := below_next B3 B1
          clear hown B1 B3
          go_wp2_with fail
          refine (rnumber 32 g2 cap2 (fun j => !F (31 - j)) (listB (fun j => !F (31 - j)) 32) _ (by omega) T4.out (listB_reg _ 32)).mono ?_
          rintro e w5 ⟨rfl, rfl⟩
          rw [sum32_num _ F HF.out]
          go_wp2_with fail
          go_ret
          exact ⟨rfl, B4⟩

end Go.Proofs.YtjbhallhmnahbaaGreat

/-
  FlatPlays: the document's head of a config.
-/
namespace Go.Proofs.YtjbhallhmnahbaaGreat
open Go.RowKit
set_option linter.unusedVariables false

theorem rput9 (n : Nat) (k : Int) (j : Nat) (L : ByteArray) (w : World) (hn : n < 18446744073709551616) (hk : 0 ≤ k ∧ k ≤ 8) (hj : clamp8 k = j) (hL : L.data.toList = putL n j) :
    Calls Tryz.prog 104 #[.int .u64 n, .int .i64 k] w fun e w' => e = .returned (.string L) ∧ Gr [] w w' := by
  refine (rput_any n k w hn (by omega) (by omega)).mono ?_
  rintro e w' ⟨rfl, hb⟩
  refine ⟨?_, .ofBelow hb⟩
  rw [hj]
  congr 2
  exact seq9 hL.symm
set_option maxHeartbeats 16000000 in
set_option maxRecDepth 100000 in
theorem rhead9 (C : CfgZ) (hC : Wf16 C) (w : World) : Calls Tryz.prog 52 #[cfgV C] w fun e w' => e = .returned (.string (headS C)) ∧ Gr [] w w' := by
  have HG := Lib.hid ((Gr.refl [] w).alloc (Obj.cells (cfgRow C) 26))
  have HI := Lib.hid (Holds.new w (cfgRow C) 26)
  obtain ⟨hr, hl, hs, hp, hk⟩ := hC
  obtain ⟨S, hS⟩ : ∃ S, S = headS C := ⟨_, rfl⟩
  have hSL : S.data.toList = headL C := by rw [hS]; rfl
  rw [← hS]
  obtain ⟨r, l, s, p, key⟩ := C
  simp only at hr hl hs hp hk
  obtain ⟨r0, rfl⟩ : ∃ n : Nat, r = (n : Int) := ⟨r.toNat, by omega⟩
  obtain ⟨l0, rfl⟩ : ∃ n : Nat, l = (n : Int) := ⟨l.toNat, by omega⟩
  obtain ⟨s0, rfl⟩ : ∃ n : Nat, s = (n : Int) := ⟨s.toNat, by omega⟩
  obtain ⟨p0, rfl⟩ : ∃ n : Nat, p = (n : Int) := ⟨p.toNat, by omega⟩
  have u1 : IntKind.u64.wrap (r0 : Int) = r0 := IntWalk.u64_in _ (by omega)
  have u2 : IntKind.u64.wrap (l0 : Int) = l0 := IntWalk.u64_in _ (by omega)
  have u3 : IntKind.u64.wrap (s0 : Int) = s0 := IntWalk.u64_in _ (by omega)
  have u4 : IntKind.u64.wrap (p0 : Int) = p0 := IntWalk.u64_in _ (by omega)
  obtain ⟨M, hM⟩ : ∃ M : ByteArray, M = ⟨#[103, 97, 98, 105, 111, 110, 48, 49]⟩ := ⟨_, rfl⟩
  have hML : M.data.toList = magL := by rw [hM]; rfl
  obtain ⟨S1, hS1⟩ := mk9 (putL r0 2)
  obtain ⟨S2, hS2⟩ := mk9 (putL l0 2)
  obtain ⟨S3, hS3⟩ := mk9 (putL s0 2)
  obtain ⟨S4, hS4⟩ := mk9 (putL p0 2)
  obtain ⟨S5, hS5⟩ := mk9 (putL key 8)
  obtain ⟨T1, hT1⟩ : ∃ T, T = M ++ S1 := ⟨_, rfl⟩
  obtain ⟨T2, hT2⟩ : ∃ T, T = T1 ++ S2 := ⟨_, rfl⟩
  obtain ⟨T3, hT3⟩ : ∃ T, T = T2 ++ S3 := ⟨_, rfl⟩
  obtain ⟨T4, hT4⟩ : ∃ T, T = T3 ++ S4 := ⟨_, rfl⟩
  obtain ⟨T5, hT5⟩ : ∃ T, T = T4 ++ S5 := ⟨_, rfl⟩
  obtain ⟨Zn, hZn⟩ : ∃ Zn : Nat → ByteArray, Zn = fun m => ⟨(T5.data.toList ++ List.replicate m (0 : UInt8)).toArray⟩ := ⟨_, rfl⟩
  have hZ0 : Zn 0 = T5 := by rw [hZn]; exact seq9 (by simp)
  have hT6L : (Zn 36).data.toList = preL ⟨r0, l0, s0, p0, key⟩ := by
    rw [hZn]
    show T5.data.toList ++ List.replicate 36 (0 : UInt8) = _
    rw [hT5, hT4, hT3, hT2, hT1, sapp9, sapp9, sapp9, sapp9, sapp9, hML, hS1, hS2, hS3, hS4, hS5]
    unfold preL
    simp [List.append_assoc]
  obtain ⟨c, hc⟩ : ∃ c, c = n32 (sum32 (preL ⟨r0, l0, s0, p0, key⟩)) := ⟨_, rfl⟩
  have hcl : c < 4294967296 := by rw [hc]; exact n32_lt _
  obtain ⟨S6, hS6⟩ := mk9 (putL c 4)
  have hTS : Zn 36 ++ S6 = S := seq9 (by rw [sapp9, hT6L, hS6, hSL, hc]; rfl)
  have z0 : M.size = 8 := by rw [Lib.size_eq, hML]; rfl
  have z1 : S1.size = 2 := by rw [Lib.size_eq, hS1, putL_length]
  have z2 : S2.size = 2 := by rw [Lib.size_eq, hS2, putL_length]
  have z3 : S3.size = 2 := by rw [Lib.size_eq, hS3, putL_length]
  have z4 : S4.size = 2 := by rw [Lib.size_eq, hS4, putL_length]
  have z5 : S5.size = 8 := by rw [Lib.size_eq, hS5, putL_length]
  have z6 : S6.size = 4 := by rw [Lib.size_eq, hS6, putL_length]
  have y1 : T1.size = 10 := by rw [hT1, ByteArray.size_append]; omega
  have y2 : T2.size = 12 := by rw [hT2, ByteArray.size_append]; omega
  have y3 : T3.size = 14 := by rw [hT3, ByteArray.size_append]; omega
  have y4 : T4.size = 16 := by rw [hT4, ByteArray.size_append]; omega
  have y5 : T5.size = 24 := by rw [hT5, ByteArray.size_append]; omega
  have yZ : ∀ m, (Zn m).size = 24 + m := fun m => by
    rw [hZn]
    show (T5.data.toList ++ List.replicate m (0 : UInt8)).toArray.size = _
    rw [List.size_toArray, List.length_append, List.length_replicate, ← Lib.size_eq, y5]
  have nZ : ∀ m, Zn m ++ ⟨#[0]⟩ = Zn (m + 1) := fun m => seq9 (by
    rw [sapp9, hZn]
    show (T5.data.toList ++ List.replicate m (0 : UInt8)) ++ [0] = T5.data.toList ++ List.replicate (m + 1) 0
    rw [List.append_assoc, List.replicate_succ'])
  have a0 := fun (W : World) => (run_string_add_sum (P := Tryz.prog) (w := W) M S1 (by omega)).trans (by rw [← hT1])
  have a1 := fun (W : World) => (run_string_add_sum (P := Tryz.prog) (w := W) T1 S2 (by omega)).trans (by rw [← hT2])
  have a2 := fun (W : World) => (run_string_add_sum (P := Tryz.prog) (w := W) T2 S3 (by omega)).trans (by rw [← hT3])
  have a3 := fun (W : World) => (run_string_add_sum (P := Tryz.prog) (w := W) T3 S4 (by omega)).trans (by rw [← hT4])
  have a4 := fun (W : World) => (run_string_add_sum (P := Tryz.prog) (w := W) T4 S5 (by omega)).trans (by rw [← hT5])
  have a6 := fun (W : World) => (run_string_add_sum (P := Tryz.prog) (w := W) (Zn 36) S6 (by rw [yZ]; omega)).trans (by rw [hTS])
  have HA := Lib.hid (And.intro a0 (And.intro a1 (And.intro a2 (And.intro a3 a4))))
  have HAZ := Lib.hid (fun (m : Nat) (hm : m < 36) (W : World) => (run_string_add_sum (P := Tryz.prog) (w := W) (Zn m) ⟨#[0]⟩ (by rw [yZ]; show 24 + m + 1 ≤ _; omega)).trans (by rw [nZ m]))
  have HSZ := Lib.hid yZ
  have HA6 := Lib.hid a6
  have HSum := Lib.hid (fun W => show Calls Tryz.prog 105 #[.string (Zn 36)] W (fun e w' => e = .returned (.int .u64 (c : Int)) ∧ Gr [] W w') from by
    have := rsum32 (Zn 36) W (by rw [yZ]; omega)
    rw [hT6L, ← hc] at this
    exact this.mono fun _ _ q => ⟨q.1, .ofBelow q.2⟩)
  have HP1 := Lib.hid (fun W => rput9 r0 2 2 S1 W (by omega) (by omega) rfl hS1)
  have HP2 := Lib.hid (fun W => rput9 l0 2 2 S2 W (by omega) (by omega) rfl hS2)
  have HP3 := Lib.hid (fun W => rput9 s0 2 2 S3 W (by omega) (by omega) rfl hS3)
  have HP4 := Lib.hid (fun W => rput9 p0 2 2 S4 W (by omega) (by omega) rfl hS4)
  have HP5 := Lib.hid (fun W => rput9 key 8 8 S5 W hk (by omega) rfl hS5)
  have HP6 := Lib.hid (fun W => rput9 c 4 4 S6 W (by omega) (by omega) rfl hS6)
  obtain ⟨Tn, hTn⟩ : ∃ Tn : Nat → ByteArray, Tn 0 = M ∧ Tn 1 = T1 ∧ Tn 2 = T2 ∧ Tn 3 = T3 ∧ Tn 4 = T4 := ⟨fun k => if k = 0 then M else if k = 1 then T1 else if k = 2 then T2 else if k = 3 then T3 else T4, rfl, rfl, rfl, rfl, rfl⟩
  have HTn := Lib.hid hTn
  have HM := Lib.hid hM
  have HZ0 := Lib.hid hZ0
  have HU := Lib.hid (And.intro u1 (And.intro u2 (And.intro u3 u4)))
  unfold cfgV
  unfold cfgRow at HG HI
  clear hS1 hS2 hS3 hS4 hS5 hS6 hT1 hT2 hT3 hT4 hT5 hT6L hTS hM hML hS hSL z0 z1 z2 z3 z4 z5 z6 y1 y2 y3 y4 y5 hc hcl hr hl hs hp hk hZn hZ0 yZ nZ a0 a1 a2 a3 a4 a6 hTn u1 u2 u3 u4
  go_enter Tryz.func52, Tryz.ntmps52
  go_upto_region 2 with fail
  generalize w.alloc (Obj.cells #[.int .i64 (r0 : Int), .int .i64 (l0 : Int), .int .i64 (s0 : Int), .int .i64 (p0 : Int), .int .u64 (key : Int)] 26) = w1 at *
  obtain ⟨cb, hcb⟩ : ∃ cb, w.heap.size = cb := ⟨_, rfl⟩
  rw [hcb] at HI ⊢
  clear hcb
  have c0 := HI.out.cell 0
  have c1 := HI.out.cell 1
  have c2 := HI.out.cell 2
  have c3 := HI.out.cell 3
  go_upto_region 3 with fail
  have hv := Holds.new w1 #[.int .i64 (r0 : Int), .int .i64 (l0 : Int), .int .i64 (s0 : Int), .int .i64 (p0 : Int)] 3
  have ga := (Gr.refl [] w1).alloc (Obj.cells #[.int .i64 (r0 : Int), .int .i64 (l0 : Int), .int .i64 (s0 : Int), .int .i64 (p0 : Int)] 3)
  have H1 := Lib.hid (And.intro hv (And.intro (HI.out.gr0 ga) (HG.out.trans ga)))
  clear hv ga c0 c1 c2 c3 HI HG
  generalize w1.alloc (Obj.cells #[.int .i64 (r0 : Int), .int .i64 (l0 : Int), .int .i64 (s0 : Int), .int .i64 (p0 : Int)] 3) = w2 at *
  obtain ⟨vb, hvb⟩ : ∃ vb, w1.heap.size = vb := ⟨_, rfl⟩
  rw [hvb] at H1 ⊢
  clear hvb
  rw [← HM.out]
  go_wp2_with fail
  go_loopw [3, 5] (fun s i wr => ∃ k : Nat, k ≤ 4 ∧ i = .int .i64 (k : Int) ∧ s = .string (Tn k) ∧ Gr [] w2 wr) (fun _ i _ => 4 - (intOf i).toNat)
  case atStart => exact ⟨0, by omega, rfl, by rw [HTn.out.1], Gr.refl _ _⟩
  case round =>
    obtain ⟨k, hk, rfl, rfl, g⟩ := hrel
    have HGk := Lib.hid g
    have hvk := H1.out.1.gr0 g
    obtain ⟨t0, t1, t2, t3, t4⟩ := HTn.out
    obtain ⟨a0, a1, a2, a3, a4⟩ := HA.out
    obtain ⟨u1, u2, u3, u4⟩ := HU.out
    clear g
    rcases (show k = 0 ∨ k = 1 ∨ k = 2 ∨ k = 3 ∨ k = 4 by omega) with rfl | rfl | rfl | rfl | rfl
    · rw [t0]
      rw [show ((0 : Nat) : Int) = 0 from rfl]
      have ck := hvk.cell 0
      clear t0 t1 t2 t3 t4 hvk hk
      go_wp2_with fail
      with_reducible refine (HP1.out _).mono ?_
      rintro e w3 ⟨rfl, g3⟩
      have HG3 := Lib.hid (HGk.out.trans g3)
      clear g3 ck
      go_wp2_with fail
      go_roundw
      case rel => exact ⟨1, by omega, rfl, by rw [HTn.out.2.1], HG3.out⟩
      case measure => simp [intOf]
    · rw [t1]
      rw [show ((1 : Nat) : Int) = 1 from rfl]
      have ck := hvk.cell 1
      clear t0 t1 t2 t3 t4 hvk hk
      go_wp2_with fail
      with_reducible refine (HP2.out _).mono ?_
      rintro e w3 ⟨rfl, g3⟩
      have HG3 := Lib.hid (HGk.out.trans g3)
      clear g3 ck
      go_wp2_with fail
      go_roundw
      case rel => exact ⟨2, by omega, rfl, by rw [HTn.out.2.2.1], HG3.out⟩
      case measure => simp [intOf]
    · rw [t2]
      rw [show ((2 : Nat) : Int) = 2 from rfl]
      have ck := hvk.cell 2
      clear t0 t1 t2 t3 t4 hvk hk
      go_wp2_with fail
      with_reducible refine (HP3.out _).mono ?_
      rintro e w3 ⟨rfl, g3⟩
      have HG3 := Lib.hid (HGk.out.trans g3)
      clear g3 ck
      go_wp2_with fail
      go_roundw
      case rel => exact ⟨3, by omega, rfl, by rw [HTn.out.2.2.2.1], HG3.out⟩
      case measure => simp [intOf]
    · rw [t3]
      rw [show ((3 : Nat) : Int) = 3 from rfl]
      have ck := hvk.cell 3
      clear t0 t1 t2 t3 t4 hvk hk
      go_wp2_with fail
      with_reducible refine (HP4.out _).mono ?_
      rintro e w3 ⟨rfl, g3⟩
      have HG3 := Lib.hid (HGk.out.trans g3)
      clear g3 ck
      go_wp2_with fail
      go_roundw
      case rel => exact ⟨4, by omega, rfl, by rw [HTn.out.2.2.2.2], HG3.out⟩
      case measure => simp [intOf]
    · rw [t4]
      rw [show ((4 : Nat) : Int) = 4 from rfl]
      have c4 := (H1.out.2.1.gr0 HGk.out).cell 4
      clear t0 t1 t2 t3 t4 hvk hk u1 u2 u3 u4
      go_wp2_with fail
      with_reducible refine (HP5.out _).mono ?_
      rintro e w3 ⟨rfl, g3⟩
      have HG3 := Lib.hid (H1.out.2.2.trans (HGk.out.trans g3))
      clear g3 c4 H1 HGk
      go_wp2_with fail
      rw [← HZ0.out]
      go_loopw [3] (fun s wr => ∃ m : Nat, m ≤ 36 ∧ s = .string (Zn m) ∧ wr = w3) (fun s _ => match s with | .string b => 60 - b.size | _ => 0)
      case atStart => exact ⟨0, by omega, rfl, rfl⟩
      case round =>
        obtain ⟨m, hm, rfl, rfl⟩ := hrel
        have hsz := HSZ.out m
        by_cases hm36 : m < 36
        · have hb : ((Zn m).size : Int) < 60 := by omega
          have am := HAZ.out m hm36
          have HM1 := Lib.hid hm36
          clear a0 a1 a2 a3 a4
          go_wp2_with fail
          go_roundw
          case rel => exact ⟨m + 1, HM1.out, by first | rfl | trivial, by first | rfl | trivial⟩
          case measure => have := HSZ.out m; have := HSZ.out (m + 1); have := HM1.out; simp; omega
        · obtain rfl : m = 36 := by omega
          have hb : ¬ ((Zn 36).size : Int) < 60 := by omega
          have a6 := HA6.out
          clear a0 a1 a2 a3 a4
          go_wp2_with fail
          with_reducible refine (HSum.out _).mono ?_
          rintro e w4 ⟨rfl, g4⟩
          have HG4 := Lib.hid (HG3.out.trans g4)
          clear g4
          go_wp2_with fail
          with_reducible refine (HP6.out _).mono ?_
          rintro e w5 ⟨rfl, g5⟩
          have HG5 := Lib.hid (HG4.out.trans g5)
          clear g5
          go_wp2_with fail
          go_ret
          exact ⟨rfl, HG5.out⟩
end Go.Proofs.YtjbhallhmnahbaaGreat
