/-
  SkAy: FeiQ, FeiW, FeiM, FeiN.
-/
import Derived.Test.YtifekejcbhllpaaGreatSkAx
import Derived.Test.YtifekejcbhllpaaGreatSkAf
import Derived.Deep.LoopGhost

set_option linter.unusedVariables false

/-
  The four rounds as plain functions; one is the other's inverse.
-/
namespace Go.Proofs.YtifekejcbhllpaaGreat
open Go.RowKit

def rd (h k : Nat) (p : Nat × Nat) : Nat × Nat := (p.2, p.1 ^^^ mixN p.2 k h)
def rb (h k : Nat) (p : Nat × Nat) : Nat × Nat := (p.2 ^^^ mixN p.1 k h, p.1)
def inH (h : Nat) (p : Nat × Nat) : Prop := p.1 < 2 ^ h ∧ p.2 < 2 ^ h
theorem rd_in {h k : Nat} {p : Nat × Nat} (hp : inH h p) : inH h (rd h k p) := ⟨hp.2, Nat.xor_lt_two_pow hp.1 (mixN_lt _ _ _)⟩
theorem rb_rd (h k : Nat) (p : Nat × Nat) : rb h k (rd h k p) = p := by
  unfold rb rd
  simp [Nat.xor_assoc]
def spl (h n : Nat) : Nat × Nat := (n / 2 ^ h, n % 2 ^ h)
def joi (h : Nat) (p : Nat × Nat) : Nat := p.1 * 2 ^ h + p.2
theorem spl_in {h n : Nat} (hn : n < 2 ^ h * 2 ^ h) : inH h (spl h n) := ⟨Nat.div_lt_of_lt_mul hn, Nat.mod_lt _ (Nat.pow_pos (by omega))⟩
theorem joi_spl (h n : Nat) : joi h (spl h n) = n := by
  unfold joi spl
  simp only
  rw [Nat.mul_comm]
  exact Nat.div_add_mod n (2 ^ h)
theorem spl_joi {h : Nat} {p : Nat × Nat} (hp : inH h p) : spl h (joi h p) = p := by
  have h2 := hp.2
  unfold spl joi
  rw [Nat.mul_comm, Nat.mul_add_div (Nat.pow_pos (by omega)), Nat.mul_add_mod, Nat.div_eq_of_lt h2, Nat.mod_eq_of_lt h2]
  rfl
theorem joi_lt {h : Nat} {p : Nat × Nat} (hp : inH h p) : joi h p < 2 ^ h * 2 ^ h := by
  unfold joi
  have h1 := hp.1
  have h2 := hp.2
  calc p.1 * 2 ^ h + p.2 < p.1 * 2 ^ h + 2 ^ h := by omega
    _ = (p.1 + 1) * 2 ^ h := by rw [Nat.succ_mul]
    _ ≤ 2 ^ h * 2 ^ h := Nat.mul_le_mul_right _ h1
def rds (h : Nat) (ks : List Nat) (p : Nat × Nat) : Nat × Nat := ks.foldl (fun p k => rd h k p) p
def rbs (h : Nat) (ks : List Nat) (p : Nat × Nat) : Nat × Nat := ks.foldl (fun p k => rb h k p) p
theorem rds_in {h : Nat} (ks : List Nat) : ∀ {p : Nat × Nat}, inH h p → inH h (rds h ks p) := by
  induction ks with
  | nil => intro p hp; exact hp
  | cons k ks ih => intro p hp; exact ih (rd_in hp)
theorem rbs_rds (h : Nat) (ks : List Nat) : ∀ p : Nat × Nat, rbs h ks.reverse (rds h ks p) = p := by
  induction ks with
  | nil => intro p; rfl
  | cons k ks ih =>
    intro p
    unfold rbs rds at ih ⊢
    rw [List.reverse_cons, List.foldl_append, List.foldl_cons, List.foldl_cons, ih]
    exact rb_rd h k p
def turnN (h : Nat) (ks : List Nat) (n : Nat) : Nat := joi h (rds h ks (spl h n))
def turnB (h : Nat) (ks : List Nat) (n : Nat) : Nat := joi h (rbs h ks.reverse (spl h n))
theorem turnN_lt {h : Nat} (ks : List Nat) {n : Nat} (hn : n < 2 ^ h * 2 ^ h) : turnN h ks n < 2 ^ h * 2 ^ h := joi_lt (rds_in ks (spl_in hn))
theorem turnB_turnN {h : Nat} (ks : List Nat) {n : Nat} (hn : n < 2 ^ h * 2 ^ h) : turnB h ks (turnN h ks n) = n := by
  unfold turnB turnN
  rw [spl_joi (rds_in ks (spl_in hn)), rbs_rds, joi_spl]
theorem turnN_inj {h : Nat} (ks : List Nat) {n m : Nat} (hn : n < 2 ^ h * 2 ^ h) (hm : m < 2 ^ h * 2 ^ h) (e : turnN h ks n = turnN h ks m) : n = m := by
  rw [← turnB_turnN ks hn, e, turnB_turnN ks hm]

set_option maxRecDepth 100000 in
theorem index4 (a b c d k n : Nat) (h : [a, b, c, d][k]? = some n) (W : World) :
    (Instr.index 137 (.agg #[.int .u16 a, .int .u16 b, .int .u16 c, .int .u16 d]) (.int .i64 (k : Int))).run Tryz.prog W = .ok (.int .u16 n) W := by
  have hk : k < 4 := by have := (List.getElem?_eq_some_iff.1 h).1; simpa using this
  have hc : k = 0 ∨ k = 1 ∨ k = 2 ∨ k = 3 := by omega
  rcases hc with rfl | rfl | rfl | rfl
  all_goals
    simp at h
    subst h
    first | kernel_rfl | rfl | simp [go_sem]
theorem rds_next (h : Nat) (ks : List Nat) (k n : Nat) (hk : ks[k]? = some n) (p : Nat × Nat) : rds h (ks.take (k + 1)) p = rd h n (rds h (ks.take k) p) := by
  unfold rds
  rw [List.take_add_one, hk, List.foldl_append]; rfl

def InvF (w : World) (sz : Int) (h a b c d : Nat) (W : World) : Prop := Holds W w.heap.size #[Value.int IntKind.i64 sz, Value.int IntKind.i64 h, Value.int IntKind.u16 a, Value.int IntKind.u16 b, Value.int IntKind.u16 c, Value.int IntKind.u16 d] 139 ∧ Below w.heap.size w W
set_option maxHeartbeats 1000000 in
theorem turn_any (sz : Int) (h a b c d n : Nat) (w : World) (h1 : 1 ≤ h) (h2 : h ≤ 7) (hn : n < 2 ^ h * 2 ^ h) (hk : ∀ k ∈ [a, b, c, d], k < 65536) :
    Calls Tryz.prog 103 #[.agg #[.int .i64 sz, .int .i64 h, .int .u16 a, .int .u16 b, .int .u16 c, .int .u16 d], .int .i64 n] w fun e w' => e = .returned (.int .i64 ((turnN h [a, b, c, d] n : Nat) : Int)) ∧ Below w.heap.size w w' := by
  have HK := Lib.hid hk
  clear hk
  go_enter Tryz.func103, Tryz.ntmps103
  go_wp2_with fail
  have X1 := Holds.new w #[Value.int IntKind.i64 sz, Value.int IntKind.i64 h, Value.int IntKind.u16 a, Value.int IntKind.u16 b, Value.int IntKind.u16 c, Value.int IntKind.u16 d] 139
  have B1 := below_new (Below.refl _ w) (Obj.cells #[Value.int IntKind.i64 sz, Value.int IntKind.i64 h, Value.int IntKind.u16 a, Value.int IntKind.u16 b, Value.int IntKind.u16 c, Value.int IntKind.u16 d] 139)
  generalize w.alloc (Obj.cells #[Value.int IntKind.i64 sz, Value.int IntKind.i64 h, Value.int IntKind.u16 a, Value.int IntKind.u16 b, Value.int IntKind.u16 c, Value.int IntKind.u16 d] 139) = wa at *
  have hne : Nonempty (Cls (InvF w sz h a b c d)) := ⟨⟨wa, X1, B1⟩⟩
  have q0 : ∀ x : Cls (InvF w sz h a b c d), x.w.cell? ⟨w.heap.size, 0, none⟩ = some (.int .i64 sz) := fun x => x.h.1.cell 0
  have q1 : ∀ x : Cls (InvF w sz h a b c d), x.w.cell? ⟨w.heap.size, 1, none⟩ = some (.int .i64 h) := fun x => x.h.1.cell 1
  have q2 : ∀ x : Cls (InvF w sz h a b c d), x.w.cell? ⟨w.heap.size, 2, none⟩ = some (.int .u16 a) := fun x => x.h.1.cell 2
  have q3 : ∀ x : Cls (InvF w sz h a b c d), x.w.cell? ⟨w.heap.size, 3, none⟩ = some (.int .u16 b) := fun x => x.h.1.cell 3
  have q4 : ∀ x : Cls (InvF w sz h a b c d), x.w.cell? ⟨w.heap.size, 4, none⟩ = some (.int .u16 c) := fun x => x.h.1.cell 4
  have q5 : ∀ x : Cls (InvF w sz h a b c d), x.w.cell? ⟨w.heap.size, 5, none⟩ = some (.int .u16 d) := fun x => x.h.1.cell 5
  refine wp_region_cls (InvF w sz h a b c d) (by kernel_rfl) (by kernel_rfl) ⟨X1.drew, B1.drew⟩ ?_
  clear X1 B1
  repeat (quiet_step ((rename_i x; exact cls_call x (mask_any sz a b c d h _ h1 h2) fun w' hb => ⟨x.h.1.below hb, Below_nx x.h.2 hb⟩)))
  refine wpQuiet_nil ?_
  rintro _ ⟨y, rfl⟩
  clear q0 q1 q2 q3 q4 q5
  obtain ⟨X1, B1⟩ := y.h
  generalize y.w = wb at *
  have hp7 : (2 : Nat) ^ h ≤ 2 ^ 7 := Nat.pow_le_pow_right (by omega) h2
  have hnb : n < 2147483648 := by
    have : 2 ^ h * 2 ^ h ≤ 2 ^ 7 * 2 ^ 7 := Nat.mul_le_mul hp7 hp7
    omega
  have hdiv : (n : Int) / 2 ^ h = (((spl h n).1 : Nat) : Int) := by unfold spl; push_cast; rfl
  have hand : bits BinOp.and IntKind.i64 (n : Int) ((2 ^ h - 1 : Nat) : Int) = (((spl h n).2 : Nat) : Int) := by
    rw [i64_and_nat _ _ hnb (by omega), Nat.and_two_pow_sub_one_eq_mod]; rfl
  rw [hdiv, hand]
  have hin := spl_in hn
  have hfin : turnN h [a, b, c, d] n = joi h (rds h [a, b, c, d] (spl h n)) := rfl
  have HT := Lib.hid hfin
  clear hdiv hand hfin hnb hn
  generalize spl h n = p0 at *
  obtain ⟨c0, c1, c2, c3, c4, c5⟩ : wb.cell? ⟨w.heap.size, 0, none⟩ = some (.int .i64 sz) ∧ wb.cell? ⟨w.heap.size, 1, none⟩ = some (.int .i64 h) ∧ wb.cell? ⟨w.heap.size, 2, none⟩ = some (.int .u16 a) ∧ wb.cell? ⟨w.heap.size, 3, none⟩ = some (.int .u16 b) ∧ wb.cell? ⟨w.heap.size, 4, none⟩ = some (.int .u16 c) ∧ wb.cell? ⟨w.heap.size, 5, none⟩ = some (.int .u16 d) := ⟨X1.cell 0, X1.cell 1, X1.cell 2, X1.cell 3, X1.cell 4, X1.cell 5⟩
  go_wp2_with fail
  clear c0 c1 c2 c3 c4 c5
  go_loopw [5, 6, 19] (fun l r i wr => ∃ (k : Nat) (p : Nat × Nat), k ≤ 4 ∧ i = .int .i64 k ∧ p = rds h ([a, b, c, d].take k) p0 ∧ inH h p ∧ l = .int .i64 (p.1 : Nat) ∧ r = .int .i64 (p.2 : Nat) ∧ Holds wr w.heap.size #[Value.int IntKind.i64 sz, Value.int IntKind.i64 h, Value.int IntKind.u16 a, Value.int IntKind.u16 b, Value.int IntKind.u16 c, Value.int IntKind.u16 d] 139 ∧ Below w.heap.size w wr) (fun _ _ i _ => 4 - (intOf i).toNat)
  case atStart => exact ⟨0, p0, by omega, rfl, rfl, hin, rfl, rfl, X1, B1⟩
  case round =>
    clear X1 B1 hin
    obtain ⟨k, p, hk, rfl, hp, hin, rfl, rfl, X1, B1⟩ := hrel
    obtain ⟨l, r⟩ := p
    have hin1 := hin.1
    have hin2 := hin.2
    have HP := Lib.hid (And.intro hp hin)
    clear hp hin
    simp only at hin1 hin2
    obtain ⟨c0, c1, c2, c3, c4, c5⟩ : wr.cell? ⟨w.heap.size, 0, none⟩ = some (.int .i64 sz) ∧ wr.cell? ⟨w.heap.size, 1, none⟩ = some (.int .i64 h) ∧ wr.cell? ⟨w.heap.size, 2, none⟩ = some (.int .u16 a) ∧ wr.cell? ⟨w.heap.size, 3, none⟩ = some (.int .u16 b) ∧ wr.cell? ⟨w.heap.size, 4, none⟩ = some (.int .u16 c) ∧ wr.cell? ⟨w.heap.size, 5, none⟩ = some (.int .u16 d) := ⟨X1.cell 0, X1.cell 1, X1.cell 2, X1.cell 3, X1.cell 4, X1.cell 5⟩
    by_cases hlt : k < 4
    · obtain ⟨key, hkey⟩ : ∃ key, [a, b, c, d][k]? = some key := ⟨_, List.getElem?_eq_getElem (by simpa using hlt)⟩
      have hkb := HK.out key (List.mem_of_getElem? hkey)
      have hix := index4 a b c d k key hkey
      have hnx := rds_next h [a, b, c, d] k key hkey p0
      rw [← HP.out.1] at hnx
      have HN := Lib.hid hnx
      clear hkey hnx
      have hm := mixN_lt r key h
      have hxor := i64_xor_nat l (mixN r key h) (by omega) (by omega)
      have hrd : rd h key (l, r) = (r, l ^^^ mixN r key h) := rfl
      rw [hrd] at HN
      have hin3 : inH h (r, l ^^^ mixN r key h) := rd_in (k := key) HP.out.2
      have HI := Lib.hid hin3
      have HM := Lib.hid (fun w => mix_any sz a b c d h r key w h1 h2 (by omega) hkb)
      clear hrd hin3
      generalize mixN r key h = mm at *
      go_wp2_with fail
      refine (HM.out _).mono ?_
      rintro e w2 ⟨rfl, hb2⟩
      have RR := Lib.hid (And.intro (X1.below hb2) (below_next B1 hb2))
      clear X1 B1 hb2 c0 c1 c2 c3 c4 c5 hix hm hin1 hin2 HM
      generalize l ^^^ mm = xx at *
      go_wp2
      go_roundw
      case rel => exact ⟨k + 1, (r, xx), by omega, by go_num, HN.out.symm, HI.out, rfl, rfl, RR.out.1, RR.out.2⟩
      case measure => simp [intOf]; omega
    · obtain rfl : k = 4 := by omega
      have hjo : bits BinOp.or IntKind.i64 (wrap64 ((l : Int) * 2 ^ h)) (r : Int) = ((joi h (l, r) : Nat) : Int) := by
        have hm : l * 2 ^ h < 2 ^ 7 * 2 ^ 7 := by
          calc l * 2 ^ h < 2 ^ h * 2 ^ h := Nat.mul_lt_mul_of_pos_right hin1 (Nat.pow_pos (by omega))
            _ ≤ 2 ^ 7 * 2 ^ 7 := Nat.mul_le_mul hp7 hp7
        have e1 : (l : Int) * 2 ^ h = ((l * 2 ^ h : Nat) : Int) := by push_cast; rfl
        have e2 : wrap64 ((l * 2 ^ h : Nat) : Int) = ((l * 2 ^ h : Nat) : Int) := by unfold wrap64; omega
        rw [e1, e2, i64_or_nat _ _ (by omega) (by omega)]
        unfold joi
        simp only
        rw [Nat.mul_comm, Nat.two_pow_add_eq_or_of_lt hin2]
      go_wp2_with fail
      have e4 : turnN h [a, b, c, d] n = joi h (l, r) := by rw [HT.out, HP.out.1]; rfl
      go_ret
      exact ⟨by rw [e4] <;> rfl, B1⟩

end Go.Proofs.YtifekejcbhllpaaGreat

/-
  The walk of a place till it is a place again.
-/
namespace Go.Proofs.YtifekejcbhllpaaGreat
open Go.RowKit

/-- j is the first return of i below m. -/
def FB (f : Nat → Nat) (m i j : Nat) : Prop := ∃ D, 1 ≤ D ∧ j = iter f D i ∧ j < m ∧ ∀ s, 1 ≤ s → s < D → m ≤ iter f s i
def keys4 (a b c d : Nat) : Prop := ∀ k ∈ [a, b, c, d], k < 65536
def Pl (f : Nat → Nat) (i D k : Nat) (x : Nat) : Prop := ∃ s, 1 ≤ s ∧ k + s = D ∧ x = iter f s i

set_option maxHeartbeats 1000000 in
theorem walkT (sz h a b c d i j : Nat) (w : World) (h1 : 1 ≤ h) (h2 : h ≤ 7) (hk : keys4 a b c d) (hi : i < sz) (hs : sz ≤ 2 ^ h * 2 ^ h) (hs2 : sz ≤ 8192) (hf : FB (turnN h [a, b, c, d]) sz i j) :
    Calls Tryz.prog 102 #[.agg #[.int .i64 sz, .int .i64 h, .int .u16 a, .int .u16 b, .int .u16 c, .int .u16 d], .int .i64 i, .func (.func 103) #[.agg #[.int .i64 sz, .int .i64 h, .int .u16 a, .int .u16 b, .int .u16 c, .int .u16 d]] #[]] w fun e w' =>
      e = .returned (.int .i64 j) ∧ Below w.heap.size w w' := by
  obtain ⟨D, hD, hj, hjm, hall⟩ := hf
  have HC := Lib.hid (fun (n : Nat) (w : World) (hn : n < 2 ^ h * 2 ^ h) => turn_any (sz : Int) h a b c d n w h1 h2 hn hk)
  have HL := Lib.hid (fun s => iter_lt (f := turnN h [a, b, c, d]) (M := 2 ^ h * 2 ^ h) (fun x hx => turnN_lt [a, b, c, d] hx) s i (by omega))
  have HA := Lib.hid hall
  have HJ := Lib.hid hj
  clear hall hj hk h1 h2
  have HS := Lib.hid hs
  clear hs
  go_enter Tryz.func102, Tryz.ntmps102
  go_wp2_with fail
  have X1 := Holds.new w #[Value.int IntKind.i64 sz, Value.int IntKind.i64 h, Value.int IntKind.u16 a, Value.int IntKind.u16 b, Value.int IntKind.u16 c, Value.int IntKind.u16 d] 139
  have B1 := below_new (Below.refl _ w) (Obj.cells #[Value.int IntKind.i64 sz, Value.int IntKind.i64 h, Value.int IntKind.u16 a, Value.int IntKind.u16 b, Value.int IntKind.u16 c, Value.int IntKind.u16 d] 139)
  generalize w.alloc (Obj.cells #[Value.int IntKind.i64 sz, Value.int IntKind.i64 h, Value.int IntKind.u16 a, Value.int IntKind.u16 b, Value.int IntKind.u16 c, Value.int IntKind.u16 d] 139) = wa at *
  refine (HC.out i _ (by have := HS.out; omega)).mono ?_
  rintro e w1 ⟨rfl, hb1⟩
  have X2 := X1.below hb1
  have B2 := below_next B1 hb1
  clear X1 B1 hb1
  have HP : Pl (turnN h [a, b, c, d]) i D (D - 1) (turnN h [a, b, c, d] i) := ⟨1, Nat.le_refl _, by omega, rfl⟩
  generalize turnN h [a, b, c, d] i = x0 at *
  go_wp2_with fail
  go_loopg [1] (D - 1) (fun k x wr => ∃ (y : Nat), k < D ∧ x = .int .i64 y ∧ Pl (turnN h [a, b, c, d]) i D k y ∧ Holds wr w.heap.size #[Value.int IntKind.i64 sz, Value.int IntKind.i64 h, Value.int IntKind.u16 a, Value.int IntKind.u16 b, Value.int IntKind.u16 c, Value.int IntKind.u16 d] 139 ∧ Below w.heap.size w wr)
  case atStart => exact ⟨x0, by omega, rfl, HP, X2, B2⟩
  case round =>
    clear X2 B2 HP
    obtain ⟨y, hkD, rfl, hpl, X1, B1⟩ := hrel
    obtain ⟨s, hs1, hs2', hy⟩ := hpl
    have hyl : y < 2 ^ h * 2 ^ h := by rw [hy]; exact HL.out s
    have HY := Lib.hid hy
    by_cases hk0 : gk = 0
    · have hyj : y = j := by
        have := HJ.out
        obtain rfl : s = D := by omega
        rw [hy, this]
      clear hy hyl
      obtain ⟨c0, c1⟩ : wr.cell? ⟨w.heap.size, 0, none⟩ = some (.int .i64 sz) ∧ wr.cell? ⟨w.heap.size, 1, none⟩ = some (.int .i64 h) := ⟨X1.cell 0, X1.cell 1⟩
      have hlt : y < sz := by omega
      have HB := Lib.hid (And.intro B1 hyj)
      clear hyj B1 hk0 hs2'
      go_wp2_with fail
      go_ret
      exact ⟨by rw [HB.out.2]; rfl, HB.out.1⟩
    · have hge : sz ≤ y := by rw [hy]; exact HA.out s hs1 (by omega)
      clear hy
      obtain ⟨c0, c1⟩ : wr.cell? ⟨w.heap.size, 0, none⟩ = some (.int .i64 sz) ∧ wr.cell? ⟨w.heap.size, 1, none⟩ = some (.int .i64 h) := ⟨X1.cell 0, X1.cell 1⟩
      have HN := Lib.hid (show Pl (turnN h [a, b, c, d]) i D (gk - 1) (turnN h [a, b, c, d] y) from ⟨s + 1, by omega, by omega, by rw [HY.out]; rfl⟩)
      have HCy := Lib.hid (fun w => HC.out y w hyl)
      generalize turnN h [a, b, c, d] y = x1 at HN HCy
      have HQ := Lib.hid hs2'
      clear hs2'
      go_wp2_with fail
      refine (HCy.out _).mono ?_
      rintro e w2 ⟨rfl, hb2⟩
      have RR := Lib.hid (And.intro (X1.below hb2) (below_next B1 hb2))
      clear X1 B1 hb2 c0 c1 HCy
      go_wp2
      go_roundg (gk - 1)
      case measure => omega
      case rel => exact ⟨x1, by omega, rfl, HN.out, RR.out.1, RR.out.2⟩

end Go.Proofs.YtifekejcbhllpaaGreat

/-
  Where a place goes, as a function; each place once.
-/
namespace Go.Proofs.YtifekejcbhllpaaGreat
open Go.RowKit

theorem FB_one {f : Nat → Nat} {m i j j' : Nat} (h : FB f m i j) (h' : FB f m i j') : j = j' := by
  obtain ⟨D, h1, h2, h3, h4⟩ := h
  obtain ⟨D', k1, k2, k3, k4⟩ := h'
  have : D = D' := by
    by_cases c : D < D'
    · have := k4 D h1 c; omega
    · by_cases c' : D' < D
      · have := h4 D' k1 c'; omega
      · omega
  subst this
  rw [h2, k2]
theorem FB_is (h : Nat) (ks : List Nat) (m i : Nat) (hi : i < m) (hm : m ≤ 2 ^ h * 2 ^ h) : ∃ j, FB (turnN h ks) m i j := by
  obtain ⟨d, h1, _, h3, h4⟩ := first_back (f := turnN h ks) (M := 2 ^ h * 2 ^ h) (m := m) (fun x hx => turnN_lt ks hx) (fun x y hx hy e => turnN_inj ks hx hy e) i hi hm
  exact ⟨_, d, h1, rfl, h3, h4⟩
theorem FB_rev {h : Nat} {ks : List Nat} {m i j : Nat} (hi : i < m) (hm : m ≤ 2 ^ h * 2 ^ h) (hf : FB (turnN h ks) m i j) : FB (turnB h ks) m j i := by
  obtain ⟨D, h1, h2, h3, h4⟩ := hf
  have key : ∀ s, s ≤ D → iter (turnB h ks) s j = iter (turnN h ks) (D - s) i := by
    intro s hs
    rw [h2]
    exact back_iter (M := 2 ^ h * 2 ^ h) (fun x hx => turnN_lt ks hx) (fun x hx => turnB_turnN ks hx) D s i hs (by omega)
  refine ⟨D, h1, ?_, hi, fun s hs1 hs2 => ?_⟩
  · rw [key D (Nat.le_refl _), Nat.sub_self]; rfl
  · rw [key s (by omega)]; exact h4 (D - s) (by omega) (by omega)
open Classical in
/-- Where a place goes. -/
noncomputable def goes (h : Nat) (ks : List Nat) (m i : Nat) : Nat := if e : ∃ j, FB (turnN h ks) m i j then Classical.choose e else 0
theorem goes_to (h : Nat) (ks : List Nat) (m i : Nat) (hi : i < m) (hm : m ≤ 2 ^ h * 2 ^ h) : FB (turnN h ks) m i (goes h ks m i) := by
  have e := FB_is h ks m i hi hm
  unfold goes
  rw [dif_pos e]
  exact Classical.choose_spec e
theorem goes_lt (h : Nat) (ks : List Nat) (m i : Nat) (hi : i < m) (hm : m ≤ 2 ^ h * 2 ^ h) : goes h ks m i < m := by
  obtain ⟨_, _, _, h3, _⟩ := goes_to h ks m i hi hm
  exact h3
theorem goes_inj (h : Nat) (ks : List Nat) (m i i' : Nat) (hi : i < m) (hi' : i' < m) (hm : m ≤ 2 ^ h * 2 ^ h) (e : goes h ks m i = goes h ks m i') : i = i' := by
  have a := FB_rev hi hm (goes_to h ks m i hi hm)
  have b := FB_rev hi' hm (goes_to h ks m i' hi' hm)
  rw [e] at a
  exact FB_one a b

end Go.Proofs.YtifekejcbhllpaaGreat

/-
  New, To, From, Size.
-/
namespace Go.Proofs.YtifekejcbhllpaaGreat
open Go.RowKit

set_option maxHeartbeats 1000000 in
theorem to_yes (sz h a b c d i j : Nat) (w : World) (h1 : 1 ≤ h) (h2 : h ≤ 7) (hk : keys4 a b c d) (hi : i < sz) (hs : sz ≤ 2 ^ h * 2 ^ h) (hs2 : sz ≤ 8192) (hf : FB (turnN h [a, b, c, d]) sz i j) :
    Calls Tryz.prog 72 #[.agg #[.int .i64 sz, .int .i64 h, .int .u16 a, .int .u16 b, .int .u16 c, .int .u16 d], .int .i64 i] w fun e w' =>
      e = .returned (.int .i64 j) ∧ Below w.heap.size w w' := by
  have HC := Lib.hid (fun (w : World) => walkT sz h a b c d i j w h1 h2 hk hi hs hs2 hf)
  clear h1 h2 hk hi hs hs2 hf
  go_enter Tryz.func72, Tryz.ntmps72
  go_wp2_with fail
  refine (HC.out _).mono ?_
  rintro e w1 ⟨rfl, hb1⟩
  have HB := Lib.hid (below_next (below_new (Below.refl _ w) _) hb1)
  clear hb1
  go_wp2_with fail
  go_ret
  exact ⟨rfl, HB.out⟩
/-! ### New -/
def halfN (m : Nat) : Nat := if m ≤ 4 then 1 else if m ≤ 16 then 2 else if m ≤ 64 then 3 else if m ≤ 256 then 4 else if m ≤ 1024 then 5 else if m ≤ 4096 then 6 else 7
def keyN (key j : Nat) : Nat := key / 65536 ^ j % 65536
theorem halfN_b (m : Nat) (h : m ≤ 8192) : 1 ≤ halfN m ∧ halfN m ≤ 7 ∧ m ≤ 2 ^ halfN m * 2 ^ halfN m := by
  unfold halfN
  by_cases c1 : m ≤ 4
  · rw [if_pos c1]; exact ⟨by omega, by omega, by omega⟩
  rw [if_neg c1]
  by_cases c2 : m ≤ 16
  · rw [if_pos c2]; exact ⟨by omega, by omega, by omega⟩
  rw [if_neg c2]
  by_cases c3 : m ≤ 64
  · rw [if_pos c3]; exact ⟨by omega, by omega, by omega⟩
  rw [if_neg c3]
  by_cases c4 : m ≤ 256
  · rw [if_pos c4]; exact ⟨by omega, by omega, by omega⟩
  rw [if_neg c4]
  by_cases c5 : m ≤ 1024
  · rw [if_pos c5]; exact ⟨by omega, by omega, by omega⟩
  rw [if_neg c5]
  by_cases c6 : m ≤ 4096
  · rw [if_pos c6]; exact ⟨by omega, by omega, by omega⟩
  rw [if_neg c6]
  exact ⟨by omega, by omega, by omega⟩
theorem halfN_lt (m k : Nat) (h1 : 1 ≤ k) (h7 : k < 7) (h : 2 ^ (2 * k) < m) : k < halfN m := by
  have hc : k = 1 ∨ k = 2 ∨ k = 3 ∨ k = 4 ∨ k = 5 ∨ k = 6 := by omega
  unfold halfN
  rcases hc with rfl | rfl | rfl | rfl | rfl | rfl
  all_goals
    simp only [Nat.reduceMul, Nat.reducePow] at h
    repeat' split
    all_goals omega
theorem halfN_ge (m k : Nat) (hm : m ≤ 8192) (h1 : 1 ≤ k) (h7 : k ≤ 7) (h : ¬ 2 ^ (2 * k) < m) : halfN m ≤ k := by
  have hc : k = 1 ∨ k = 2 ∨ k = 3 ∨ k = 4 ∨ k = 5 ∨ k = 6 ∨ k = 7 := by omega
  unfold halfN
  rcases hc with rfl | rfl | rfl | rfl | rfl | rfl | rfl
  all_goals
    simp only [Nat.reduceMul, Nat.reducePow] at h
    repeat' split
    all_goals omega
theorem keyN_lt (key j : Nat) : keyN key j < 65536 := Nat.mod_lt _ (by omega)
theorem field_key (key j : Nat) (hj : j < 4) : fieldN key (16 * (j : Int)) 16 = keyN key j := by
  unfold fieldN keyN
  have h : okF (16 * (j : Int)) 16 := by unfold okF; omega
  rw [if_pos h]
  have e : (16 * (j : Int)).toNat = 16 * j := by omega
  have e2 : (65536 : Nat) ^ j = 2 ^ (16 * j) := by rw [Nat.pow_mul]
  rw [e, e2]
  rfl

set_option maxRecDepth 20000 in
set_option maxHeartbeats 2000000 in
theorem new_yes (m key : Nat) (w : World) (h1 : 1 ≤ m) (h2 : m ≤ 8192) (hkey : key < 18446744073709551616) :
    Calls Tryz.prog 91 #[.int .i64 m, .int .u64 key] w fun e w' =>
      e = .returned (.tuple #[.agg #[.int .i64 m, .int .i64 (halfN m : Nat), .int .u16 (keyN key 0 : Nat), .int .u16 (keyN key 1 : Nat), .int .u16 (keyN key 2 : Nat), .int .u16 (keyN key 3 : Nat)], .int .i64 0]) ∧ Below w.heap.size w w' := by
  have HF := Lib.hid (fun (j : Nat) (w : World) (hj : j < 4) => field_any key (16 * (j : Int)) 16 w hkey (by omega) (by omega))
  go_enter Tryz.func91, Tryz.ntmps91
  go_wp2_with fail
  have hd1 : decide ((m : Int) < 1) = false := by simpa using (show ¬ (m : Int) < 1 by omega)
  have hd2 : decide ((8192 : Int) < (m : Int)) = false := by simpa using (show ¬ (8192 : Int) < (m : Int) by omega)
  have Y1 := Holds.new w #[Value.int IntKind.i64 0, Value.int IntKind.i64 0, Value.int IntKind.u16 0, Value.int IntKind.u16 0, Value.int IntKind.u16 0, Value.int IntKind.u16 0] 139
  have B1 := below_new (Below.refl _ w) (Obj.cells #[Value.int IntKind.i64 0, Value.int IntKind.i64 0, Value.int IntKind.u16 0, Value.int IntKind.u16 0, Value.int IntKind.u16 0, Value.int IntKind.u16 0] 139)
  have X1 := Holds.new (w.alloc (Obj.cells #[Value.int IntKind.i64 0, Value.int IntKind.i64 0, Value.int IntKind.u16 0, Value.int IntKind.u16 0, Value.int IntKind.u16 0, Value.int IntKind.u16 0] 139)) #[Value.int IntKind.i64 m, Value.int IntKind.i64 1, Value.int IntKind.u16 0, Value.int IntKind.u16 0, Value.int IntKind.u16 0, Value.int IntKind.u16 0] 139
  have Y2 := Y1.alloc (Obj.cells #[Value.int IntKind.i64 m, Value.int IntKind.i64 1, Value.int IntKind.u16 0, Value.int IntKind.u16 0, Value.int IntKind.u16 0, Value.int IntKind.u16 0] 139)
  have B2 := below_new B1 (Obj.cells #[Value.int IntKind.i64 m, Value.int IntKind.i64 1, Value.int IntKind.u16 0, Value.int IntKind.u16 0, Value.int IntKind.u16 0, Value.int IntKind.u16 0] 139)
  clear Y1 B1
  generalize hwa : (w.alloc (Obj.cells #[Value.int IntKind.i64 0, Value.int IntKind.i64 0, Value.int IntKind.u16 0, Value.int IntKind.u16 0, Value.int IntKind.u16 0, Value.int IntKind.u16 0] 139)).alloc (Obj.cells #[Value.int IntKind.i64 m, Value.int IntKind.i64 1, Value.int IntKind.u16 0, Value.int IntKind.u16 0, Value.int IntKind.u16 0, Value.int IntKind.u16 0] 139) = wa at *
  clear hwa
  rw [show (w.alloc (Obj.cells #[Value.int IntKind.i64 0, Value.int IntKind.i64 0, Value.int IntKind.u16 0, Value.int IntKind.u16 0, Value.int IntKind.u16 0, Value.int IntKind.u16 0] 139)).heap.size = w.heap.size + 1 by simp] at X1
  have hz := halfN_b m h2
  have HZ := Lib.hid hz
  clear hz
  go_loopg [] 6 (fun n wr => ∃ (k : Nat), n + k = 7 ∧ 1 ≤ k ∧ k ≤ halfN m ∧ Holds wr (w.heap.size + 1) #[Value.int IntKind.i64 m, Value.int IntKind.i64 k, Value.int IntKind.u16 0, Value.int IntKind.u16 0, Value.int IntKind.u16 0, Value.int IntKind.u16 0] 139 ∧ Holds wr w.heap.size #[Value.int IntKind.i64 0, Value.int IntKind.i64 0, Value.int IntKind.u16 0, Value.int IntKind.u16 0, Value.int IntKind.u16 0, Value.int IntKind.u16 0] 139 ∧ Below w.heap.size w wr)
  case atStart => exact ⟨1, by omega, by omega, HZ.out.1, X1, Y2, B2⟩
  case round =>
    clear X1 Y2 B2
    obtain ⟨k, hnk, hk1, hk2, X1, Y1, B1⟩ := hrel
    have hk7 : k ≤ 7 := by omega
    obtain ⟨c0, c1⟩ : wr.cell? ⟨w.heap.size + 1, 0, none⟩ = some (.int .i64 m) ∧ wr.cell? ⟨w.heap.size + 1, 1, none⟩ = some (.int .i64 k) := ⟨X1.cell 0, X1.cell 1⟩
    have c1f := X1.frozen 1
    by_cases c : 2 ^ (2 * k) < m
    · have hk6 : k < 7 := by
        have : k ≠ 7 := by intro e; subst e; simp at c; omega
        omega
      have hlt := halfN_lt m k hk1 hk6 c
      have RR := Lib.hid (And.intro (X1.set 1 (.int .i64 ((k + 1 : Nat) : Int))) (And.intro (Y1.far (a := ⟨w.heap.size + 1, 1, none⟩) (by simp) (.int .i64 ((k + 1 : Nat) : Int))) (B1.setCell (p := ⟨w.heap.size + 1, 1, none⟩) (by simp) (.int .i64 ((k + 1 : Nat) : Int)))))
      clear X1 Y1 B1
      have HN := Lib.hid (And.intro hnk hlt)
      clear hnk hlt hk2 hk7
      have hc : k = 1 ∨ k = 2 ∨ k = 3 ∨ k = 4 ∨ k = 5 ∨ k = 6 := by omega
      rcases hc with rfl | rfl | rfl | rfl | rfl | rfl
      all_goals
        simp only [Nat.reduceMul, Nat.reducePow] at c
        clear hk1 hk6
        go_wp2_with fail
        go_roundg (gk - 1)
        case measure => have := HN.out.1; omega
        case rel => exact ⟨_, by have := HN.out.1; omega, by omega, HN.out.2, RR.out.1, RR.out.2.1, RR.out.2.2⟩
    · have hge := halfN_ge m k h2 hk1 hk7 c
      obtain ⟨H, hH⟩ : ∃ H, H = halfN m := ⟨_, rfl⟩
      have hkH : k = H := by omega
      have F0 : ∀ w, Calls Tryz.prog 101 #[.int .u64 key, .int .i64 0, .int .i64 16] w fun e w' => e = .returned (.int .u64 (keyN key 0 : Nat)) ∧ w = w' := fun w => by have := HF.out 0 w (by omega); rwa [field_key key 0 (by omega)] at this
      have F1 : ∀ w, Calls Tryz.prog 101 #[.int .u64 key, .int .i64 16, .int .i64 16] w fun e w' => e = .returned (.int .u64 (keyN key 1 : Nat)) ∧ w = w' := fun w => by have := HF.out 1 w (by omega); rwa [field_key key 1 (by omega)] at this
      have F2 : ∀ w, Calls Tryz.prog 101 #[.int .u64 key, .int .i64 32, .int .i64 16] w fun e w' => e = .returned (.int .u64 (keyN key 2 : Nat)) ∧ w = w' := fun w => by have := HF.out 2 w (by omega); rwa [field_key key 2 (by omega)] at this
      have F3 : ∀ w, Calls Tryz.prog 101 #[.int .u64 key, .int .i64 48, .int .i64 16] w fun e w' => e = .returned (.int .u64 (keyN key 3 : Nat)) ∧ w = w' := fun w => by have := HF.out 3 w (by omega); rwa [field_key key 3 (by omega)] at this
      have b0 := keyN_lt key 0
      have b1 := keyN_lt key 1
      have b2 := keyN_lt key 2
      have b3 := keyN_lt key 3
      obtain ⟨q0, hq0⟩ : ∃ q, keyN key 0 = q := ⟨_, rfl⟩
      rw [hq0] at F0 b0
      have HQ0 := Lib.hid hq0
      clear hq0
      obtain ⟨q1, hq1⟩ : ∃ q, keyN key 1 = q := ⟨_, rfl⟩
      rw [hq1] at F1 b1
      have HQ1 := Lib.hid hq1
      clear hq1
      obtain ⟨q2, hq2⟩ : ∃ q, keyN key 2 = q := ⟨_, rfl⟩
      rw [hq2] at F2 b2
      have HQ2 := Lib.hid hq2
      clear hq2
      obtain ⟨q3, hq3⟩ : ∃ q, keyN key 3 = q := ⟨_, rfl⟩
      rw [hq3] at F3 b3
      have HQ3 := Lib.hid hq3
      clear hq3
      have HF0 := Lib.hid F0
      have HF1 := Lib.hid F1
      have HF2 := Lib.hid F2
      have HF3 := Lib.hid F3
      clear F0 F1 F2 F3 HF
      have t0 : IntKind.u16.wrap (q0 : Int) = (q0 : Int) := IntWalk.u16_in _ (by omega)
      have t1 : IntKind.u16.wrap (q1 : Int) = (q1 : Int) := IntWalk.u16_in _ (by omega)
      have t2 : IntKind.u16.wrap (q2 : Int) = (q2 : Int) := IntWalk.u16_in _ (by omega)
      have t3 : IntKind.u16.wrap (q3 : Int) = (q3 : Int) := IntWalk.u16_in _ (by omega)
      clear b0 b1 b2 b3
      obtain ⟨c2, c3, c4, c5⟩ : wr.cell? ⟨w.heap.size + 1, 2, none⟩ = some (.int .u16 0) ∧ wr.cell? ⟨w.heap.size + 1, 3, none⟩ = some (.int .u16 0) ∧ wr.cell? ⟨w.heap.size + 1, 4, none⟩ = some (.int .u16 0) ∧ wr.cell? ⟨w.heap.size + 1, 5, none⟩ = some (.int .u16 0) := ⟨X1.cell 2, X1.cell 3, X1.cell 4, X1.cell 5⟩
      obtain ⟨f2, f3, f4, f5⟩ : wr.frozen? ⟨w.heap.size + 1, 2, none⟩ = false ∧ wr.frozen? ⟨w.heap.size + 1, 3, none⟩ = false ∧ wr.frozen? ⟨w.heap.size + 1, 4, none⟩ = false ∧ wr.frozen? ⟨w.heap.size + 1, 5, none⟩ = false := ⟨X1.frozen 2, X1.frozen 3, X1.frozen 4, X1.frozen 5⟩
      have HE := Lib.hid (And.intro hH hkH)
      clear hH hkH hge hnk hk2
      have hc : k = 1 ∨ k = 2 ∨ k = 3 ∨ k = 4 ∨ k = 5 ∨ k = 6 ∨ k = 7 := by omega
      have RR := Lib.hid (And.intro ((((X1.set 2 (.int .u16 q0)).set 3 (.int .u16 q1)).set 4 (.int .u16 q2)).set 5 (.int .u16 q3)) (And.intro ((((Y1.far (a := ⟨w.heap.size + 1, 2, none⟩) (by simp) (.int .u16 q0)).far (a := ⟨w.heap.size + 1, 3, none⟩) (by simp) (.int .u16 q1)).far (a := ⟨w.heap.size + 1, 4, none⟩) (by simp) (.int .u16 q2)).far (a := ⟨w.heap.size + 1, 5, none⟩) (by simp) (.int .u16 q3))
        ((((B1.setCell (p := ⟨w.heap.size + 1, 2, none⟩) (by simp) (.int .u16 q0)).setCell (p := ⟨w.heap.size + 1, 3, none⟩) (by simp) (.int .u16 q1)).setCell (p := ⟨w.heap.size + 1, 4, none⟩) (by simp) (.int .u16 q2)).setCell (p := ⟨w.heap.size + 1, 5, none⟩) (by simp) (.int .u16 q3))))
      clear X1 Y1 B1
      rcases hc with rfl | rfl | rfl | rfl | rfl | rfl | rfl
      all_goals
        simp only [Nat.reduceMul, Nat.reducePow] at c
        clear hk1 hk7
        go_wp2_with fail
        refine wp_loop_rounds 5 ?_
        rw [rounds_succ]
        go_wp2_with (first | (refine (HF0.out _).mono ?_; rintro e w9 ⟨rfl, rfl⟩))
        rw [rounds_succ]
        go_wp2_with (first | (refine (HF1.out _).mono ?_; rintro e w9 ⟨rfl, rfl⟩))
        rw [rounds_succ]
        go_wp2_with (first | (refine (HF2.out _).mono ?_; rintro e w9 ⟨rfl, rfl⟩))
        rw [rounds_succ]
        go_wp2_with (first | (refine (HF3.out _).mono ?_; rintro e w9 ⟨rfl, rfl⟩))
        rw [rounds_succ]
        clear c0 c1 c1f c2 c3 c4 c5 f2 f3 f4 f5
        generalize (((wr.setCell ⟨w.heap.size + 1, 2, none⟩ (Value.int .u16 q0)).setCell ⟨w.heap.size + 1, 3, none⟩ (Value.int .u16 q1)).setCell ⟨w.heap.size + 1, 4, none⟩ (Value.int .u16 q2)).setCell ⟨w.heap.size + 1, 5, none⟩ (Value.int .u16 q3) = wf at *
        have c0 : wf.cell? ⟨w.heap.size + 1, 0, none⟩ = some (.int .i64 m) := RR.out.1.cell 0
        have c2 : wf.cell? ⟨w.heap.size + 1, 2, none⟩ = some (.int .u16 q0) := RR.out.1.cell 2
        have c3 : wf.cell? ⟨w.heap.size + 1, 3, none⟩ = some (.int .u16 q1) := RR.out.1.cell 3
        have c4 : wf.cell? ⟨w.heap.size + 1, 4, none⟩ = some (.int .u16 q2) := RR.out.1.cell 4
        have c5 : wf.cell? ⟨w.heap.size + 1, 5, none⟩ = some (.int .u16 q3) := RR.out.1.cell 5
        obtain ⟨kk, c1⟩ : ∃ kk, wf.cell? ⟨w.heap.size + 1, 1, none⟩ = some (.int .i64 kk) ∧ kk = ((halfN m : Nat) : Int) := ⟨_, RR.out.1.cell 1, by have := HE.out; omega⟩
        obtain ⟨c1, hkk⟩ := c1
        have HKK := Lib.hid hkk
        clear hkk
        have d0 : wf.cell? ⟨w.heap.size, 0, none⟩ = some (.int .i64 0) := RR.out.2.1.cell 0
        have g0 := RR.out.2.1.frozen 0
        have d1 : wf.cell? ⟨w.heap.size, 1, none⟩ = some (.int .i64 0) := RR.out.2.1.cell 1
        have g1 := RR.out.2.1.frozen 1
        have d2 : wf.cell? ⟨w.heap.size, 2, none⟩ = some (.int .u16 0) := RR.out.2.1.cell 2
        have g2 := RR.out.2.1.frozen 2
        have d3 : wf.cell? ⟨w.heap.size, 3, none⟩ = some (.int .u16 0) := RR.out.2.1.cell 3
        have g3 := RR.out.2.1.frozen 3
        have d4 : wf.cell? ⟨w.heap.size, 4, none⟩ = some (.int .u16 0) := RR.out.2.1.cell 4
        have g4 := RR.out.2.1.frozen 4
        have d5 : wf.cell? ⟨w.heap.size, 5, none⟩ = some (.int .u16 0) := RR.out.2.1.cell 5
        have g5 := RR.out.2.1.frozen 5
        go_wp2_with fail
        have HB := RR.out.2.2
        exact bodyPost_ret (v := .tuple #[.agg #[.int .i64 m, .int .i64 kk, .int .u16 q0, .int .u16 q1, .int .u16 q2, .int .u16 q3], .int .i64 0]) (by simp [results, Tryz.results91, go_sem, *]) rfl ⟨by rw [HQ0.out, HQ1.out, HQ2.out, HQ3.out, HKK.out], by go_grown⟩

end Go.Proofs.YtifekejcbhllpaaGreat
