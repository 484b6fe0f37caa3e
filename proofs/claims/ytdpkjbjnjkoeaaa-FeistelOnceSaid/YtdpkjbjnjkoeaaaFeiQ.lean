/-
  The four rounds as plain functions; one is the other's inverse.
-/
import Derived.Test.YtdpkjbjnjkoeaaaFei
namespace Go.Proofs.Ytdpkjbjnjkoeaaa
open Go.RowKit

def rd (h k : Nat) (p : Nat × Nat) : Nat × Nat := (p.2, p.1 ^^^ mixN p.2 k h)
def rb (h k : Nat) (p : Nat × Nat) : Nat × Nat := (p.2 ^^^ mixN p.1 k h, p.1)
def inH (h : Nat) (p : Nat × Nat) : Prop := p.1 < 2 ^ h ∧ p.2 < 2 ^ h
theorem rd_in {h k : Nat} {p : Nat × Nat} (hp : inH h p) : inH h (rd h k p) := ⟨hp.2, Nat.xor_lt_two_pow hp.1 (mixN_lt _ _ _)⟩
theorem rb_in {h k : Nat} {p : Nat × Nat} (hp : inH h p) : inH h (rb h k p) := ⟨Nat.xor_lt_two_pow hp.2 (mixN_lt _ _ _), hp.1⟩
theorem rb_rd (h k : Nat) (p : Nat × Nat) : rb h k (rd h k p) = p := by
  unfold rb rd
  simp [Nat.xor_assoc]
theorem rd_rb (h k : Nat) (p : Nat × Nat) : rd h k (rb h k p) = p := by
  unfold rb rd
  simp [Nat.xor_assoc]
def spl (h n : Nat) : Nat × Nat := (n / 2 ^ h, n % 2 ^ h)
def joi (h : Nat) (p : Nat × Nat) : Nat := p.1 * 2 ^ h + p.2
theorem spl_in {h n : Nat} (hn : n < 2 ^ h * 2 ^ h) : inH h (spl h n) := ⟨Nat.div_lt_of_lt_mul hn, Nat.mod_lt _ (Nat.pow_pos (by omega))⟩
theorem joi_spl (h n : Nat) : joi h (spl h n) = n := by
  unfold joi spl
  simp only
  rw [Nat.mul_comm]
  exact Nat.div_add_mod n (2 ^ h)
theorem spl_joi {h : Nat} {p : Nat × Nat} (hp : inH h p) : spl h (joi h p) = p := by
  have h2 := hp.2
  unfold spl joi
  rw [Nat.mul_comm, Nat.mul_add_div (Nat.pow_pos (by omega)), Nat.mul_add_mod, Nat.div_eq_of_lt h2, Nat.mod_eq_of_lt h2]
  rfl
theorem joi_lt {h : Nat} {p : Nat × Nat} (hp : inH h p) : joi h p < 2 ^ h * 2 ^ h := by
  unfold joi
  have h1 := hp.1
  have h2 := hp.2
  calc p.1 * 2 ^ h + p.2 < p.1 * 2 ^ h + 2 ^ h := by omega
    _ = (p.1 + 1) * 2 ^ h := by rw [Nat.succ_mul]
    _ ≤ 2 ^ h * 2 ^ h := Nat.mul_le_mul_right _ h1
def rds (h : Nat) (ks : List Nat) (p : Nat × Nat) : Nat × Nat := ks.foldl (fun p k => rd h k p) p
def rbs (h : Nat) (ks : List Nat) (p : Nat × Nat) : Nat × Nat := ks.foldl (fun p k => rb h k p) p
theorem rds_in {h : Nat} (ks : List Nat) : ∀ {p : Nat × Nat}, inH h p → inH h (rds h ks p) := by
  induction ks with
  | nil => intro p hp; exact hp
  | cons k ks ih => intro p hp; exact ih (rd_in hp)
theorem rbs_in {h : Nat} (ks : List Nat) : ∀ {p : Nat × Nat}, inH h p → inH h (rbs h ks p) := by
  induction ks with
  | nil => intro p hp; exact hp
  | cons k ks ih => intro p hp; exact ih (rb_in hp)
theorem rbs_rds (h : Nat) (ks : List Nat) : ∀ p : Nat × Nat, rbs h ks.reverse (rds h ks p) = p := by
  induction ks with
  | nil => intro p; rfl
  | cons k ks ih =>
    intro p
    unfold rbs rds at ih ⊢
    rw [List.reverse_cons, List.foldl_append, List.foldl_cons, List.foldl_cons, ih]
    exact rb_rd h k p
def turnN (h : Nat) (ks : List Nat) (n : Nat) : Nat := joi h (rds h ks (spl h n))
def turnB (h : Nat) (ks : List Nat) (n : Nat) : Nat := joi h (rbs h ks.reverse (spl h n))
theorem turnN_lt {h : Nat} (ks : List Nat) {n : Nat} (hn : n < 2 ^ h * 2 ^ h) : turnN h ks n < 2 ^ h * 2 ^ h := joi_lt (rds_in ks (spl_in hn))
theorem turnB_lt {h : Nat} (ks : List Nat) {n : Nat} (hn : n < 2 ^ h * 2 ^ h) : turnB h ks n < 2 ^ h * 2 ^ h := joi_lt (rbs_in _ (spl_in hn))
theorem turnB_turnN {h : Nat} (ks : List Nat) {n : Nat} (hn : n < 2 ^ h * 2 ^ h) : turnB h ks (turnN h ks n) = n := by
  unfold turnB turnN
  rw [spl_joi (rds_in ks (spl_in hn)), rbs_rds, joi_spl]
theorem turnN_inj {h : Nat} (ks : List Nat) {n m : Nat} (hn : n < 2 ^ h * 2 ^ h) (hm : m < 2 ^ h * 2 ^ h) (e : turnN h ks n = turnN h ks m) : n = m := by
  rw [← turnB_turnN ks hn, e, turnB_turnN ks hm]

set_option maxRecDepth 100000 in
theorem index4 (a b c d k n : Nat) (h : [a, b, c, d][k]? = some n) (W : World) :
    (Instr.index 25 (.agg #[.int .u16 a, .int .u16 b, .int .u16 c, .int .u16 d]) (.int .i64 (k : Int))).run Try.prog W = .ok (.int .u16 n) W := by
  have hk : k < 4 := by have := (List.getElem?_eq_some_iff.1 h).1; simpa using this
  have hc : k = 0 ∨ k = 1 ∨ k = 2 ∨ k = 3 := by omega
  rcases hc with rfl | rfl | rfl | rfl
  all_goals
    simp at h
    subst h
    first | kernel_rfl | rfl | simp [go_sem]
theorem rds_next (h : Nat) (ks : List Nat) (k n : Nat) (hk : ks[k]? = some n) (p : Nat × Nat) : rds h (ks.take (k + 1)) p = rd h n (rds h (ks.take k) p) := by
  unfold rds
  rw [List.take_add_one, hk, List.foldl_append]; rfl

def InvP (w : World) (sz : Int) (h a b c d : Nat) (W : World) : Prop := Holds W w.heap.size #[Value.int IntKind.i64 sz, Value.int IntKind.i64 h, Value.int IntKind.u16 a, Value.int IntKind.u16 b, Value.int IntKind.u16 c, Value.int IntKind.u16 d] 27 ∧ Below w.heap.size w W
set_option maxHeartbeats 1000000 in
theorem turn_any (sz : Int) (h a b c d n : Nat) (w : World) (h1 : 1 ≤ h) (h2 : h ≤ 7) (hn : n < 2 ^ h * 2 ^ h) (hk : ∀ k ∈ [a, b, c, d], k < 65536) :
    Calls Try.prog 47 #[.agg #[.int .i64 sz, .int .i64 h, .int .u16 a, .int .u16 b, .int .u16 c, .int .u16 d], .int .i64 n] w fun e w' => e = .returned (.int .i64 ((turnN h [a, b, c, d] n : Nat) : Int)) ∧ Below w.heap.size w w' := by
  have HK := Lib.hid hk
  clear hk
  go_enter Try.func47, Try.ntmps47
  go_wp2_with fail
  have X1 := Holds.new w #[Value.int IntKind.i64 sz, Value.int IntKind.i64 h, Value.int IntKind.u16 a, Value.int IntKind.u16 b, Value.int IntKind.u16 c, Value.int IntKind.u16 d] 27
  have B1 := below_new (Below.refl _ w) (Obj.cells #[Value.int IntKind.i64 sz, Value.int IntKind.i64 h, Value.int IntKind.u16 a, Value.int IntKind.u16 b, Value.int IntKind.u16 c, Value.int IntKind.u16 d] 27)
  generalize w.alloc (Obj.cells #[Value.int IntKind.i64 sz, Value.int IntKind.i64 h, Value.int IntKind.u16 a, Value.int IntKind.u16 b, Value.int IntKind.u16 c, Value.int IntKind.u16 d] 27) = wa at *
  have hne : Nonempty (Cls (InvP w sz h a b c d)) := ⟨⟨wa, X1, B1⟩⟩
  have q0 : ∀ x : Cls (InvP w sz h a b c d), x.w.cell? ⟨w.heap.size, 0, none⟩ = some (.int .i64 sz) := fun x => x.h.1.cell 0
  have q1 : ∀ x : Cls (InvP w sz h a b c d), x.w.cell? ⟨w.heap.size, 1, none⟩ = some (.int .i64 h) := fun x => x.h.1.cell 1
  have q2 : ∀ x : Cls (InvP w sz h a b c d), x.w.cell? ⟨w.heap.size, 2, none⟩ = some (.int .u16 a) := fun x => x.h.1.cell 2
  have q3 : ∀ x : Cls (InvP w sz h a b c d), x.w.cell? ⟨w.heap.size, 3, none⟩ = some (.int .u16 b) := fun x => x.h.1.cell 3
  have q4 : ∀ x : Cls (InvP w sz h a b c d), x.w.cell? ⟨w.heap.size, 4, none⟩ = some (.int .u16 c) := fun x => x.h.1.cell 4
  have q5 : ∀ x : Cls (InvP w sz h a b c d), x.w.cell? ⟨w.heap.size, 5, none⟩ = some (.int .u16 d) := fun x => x.h.1.cell 5
  refine wp_region_cls (InvP w sz h a b c d) (by kernel_rfl) (by kernel_rfl) ⟨X1.drew, B1.drew⟩ ?_
  clear X1 B1
  repeat (quiet_step ((rename_i x; exact cls_call x (mask_any sz a b c d h _ h1 h2) fun w' hb => ⟨x.h.1.below hb, Below_nx x.h.2 hb⟩)))
  refine wpQuiet_nil ?_
  rintro _ ⟨y, rfl⟩
  clear q0 q1 q2 q3 q4 q5
  obtain ⟨X1, B1⟩ := y.h
  generalize y.w = wb at *
  have hp7 : (2 : Nat) ^ h ≤ 2 ^ 7 := Nat.pow_le_pow_right (by omega) h2
  have hnb : n < 2147483648 := by
    have : 2 ^ h * 2 ^ h ≤ 2 ^ 7 * 2 ^ 7 := Nat.mul_le_mul hp7 hp7
    omega
  have hdiv : (n : Int) / 2 ^ h = (((spl h n).1 : Nat) : Int) := by unfold spl; push_cast; rfl
  have hand : bits BinOp.and IntKind.i64 (n : Int) ((2 ^ h - 1 : Nat) : Int) = (((spl h n).2 : Nat) : Int) := by
    rw [i64_and_nat _ _ hnb (by omega), Nat.and_two_pow_sub_one_eq_mod]; rfl
  rw [hdiv, hand]
  have hin := spl_in hn
  have hfin : turnN h [a, b, c, d] n = joi h (rds h [a, b, c, d] (spl h n)) := rfl
  have HT := Lib.hid hfin
  clear hdiv hand hfin hnb hn
  generalize spl h n = p0 at *
  obtain ⟨c0, c1, c2, c3, c4, c5⟩ : wb.cell? ⟨w.heap.size, 0, none⟩ = some (.int .i64 sz) ∧ wb.cell? ⟨w.heap.size, 1, none⟩ = some (.int .i64 h) ∧ wb.cell? ⟨w.heap.size, 2, none⟩ = some (.int .u16 a) ∧ wb.cell? ⟨w.heap.size, 3, none⟩ = some (.int .u16 b) ∧ wb.cell? ⟨w.heap.size, 4, none⟩ = some (.int .u16 c) ∧ wb.cell? ⟨w.heap.size, 5, none⟩ = some (.int .u16 d) := ⟨X1.cell 0, X1.cell 1, X1.cell 2, X1.cell 3, X1.cell 4, X1.cell 5⟩
  go_wp2_with fail
  clear c0 c1 c2 c3 c4 c5
  go_loopw [5, 6, 19] (fun l r i wr => ∃ (k : Nat) (p : Nat × Nat), k ≤ 4 ∧ i = .int .i64 k ∧ p = rds h ([a, b, c, d].take k) p0 ∧ inH h p ∧ l = .int .i64 (p.1 : Nat) ∧ r = .int .i64 (p.2 : Nat) ∧ Holds wr w.heap.size #[Value.int IntKind.i64 sz, Value.int IntKind.i64 h, Value.int IntKind.u16 a, Value.int IntKind.u16 b, Value.int IntKind.u16 c, Value.int IntKind.u16 d] 27 ∧ Below w.heap.size w wr) (fun _ _ i _ => 4 - (intOf i).toNat)
  case atStart => exact ⟨0, p0, by omega, rfl, rfl, hin, rfl, rfl, X1, B1⟩
  case round =>
    clear X1 B1 hin
    obtain ⟨k, p, hk, rfl, hp, hin, rfl, rfl, X1, B1⟩ := hrel
    obtain ⟨l, r⟩ := p
    have hin1 := hin.1
    have hin2 := hin.2
    have HP := Lib.hid (And.intro hp hin)
    clear hp hin
    simp only at hin1 hin2
    obtain ⟨c0, c1, c2, c3, c4, c5⟩ : wr.cell? ⟨w.heap.size, 0, none⟩ = some (.int .i64 sz) ∧ wr.cell? ⟨w.heap.size, 1, none⟩ = some (.int .i64 h) ∧ wr.cell? ⟨w.heap.size, 2, none⟩ = some (.int .u16 a) ∧ wr.cell? ⟨w.heap.size, 3, none⟩ = some (.int .u16 b) ∧ wr.cell? ⟨w.heap.size, 4, none⟩ = some (.int .u16 c) ∧ wr.cell? ⟨w.heap.size, 5, none⟩ = some (.int .u16 d) := ⟨X1.cell 0, X1.cell 1, X1.cell 2, X1.cell 3, X1.cell 4, X1.cell 5⟩
    by_cases hlt : k < 4
    · obtain ⟨key, hkey⟩ : ∃ key, [a, b, c, d][k]? = some key := ⟨_, List.getElem?_eq_getElem (by simpa using hlt)⟩
      have hkb := HK.out key (List.mem_of_getElem? hkey)
      have hix := index4 a b c d k key hkey
      have hnx := rds_next h [a, b, c, d] k key hkey p0
      rw [← HP.out.1] at hnx
      have HN := Lib.hid hnx
      clear hkey hnx
      have hm := mixN_lt r key h
      have hxor := i64_xor_nat l (mixN r key h) (by omega) (by omega)
      have hrd : rd h key (l, r) = (r, l ^^^ mixN r key h) := rfl
      rw [hrd] at HN
      have hin3 : inH h (r, l ^^^ mixN r key h) := rd_in (k := key) HP.out.2
      have HI := Lib.hid hin3
      have HM := Lib.hid (fun w => mix_any sz a b c d h r key w h1 h2 (by omega) hkb)
      clear hrd hin3
      generalize mixN r key h = mm at *
      go_wp2_with fail
      refine (HM.out _).mono ?_
      rintro e w2 ⟨rfl, hb2⟩
      have RR := Lib.hid (And.intro (X1.below hb2) (below_next B1 hb2))
      clear X1 B1 hb2 c0 c1 c2 c3 c4 c5 hix hm hin1 hin2 HM
      generalize l ^^^ mm = xx at *
      go_wp2
      go_roundw
      case rel => exact ⟨k + 1, (r, xx), by omega, by go_num, HN.out.symm, HI.out, rfl, rfl, RR.out.1, RR.out.2⟩
      case measure => simp [intOf]; omega
    · obtain rfl : k = 4 := by omega
      have hjo : bits BinOp.or IntKind.i64 (wrap64 ((l : Int) * 2 ^ h)) (r : Int) = ((joi h (l, r) : Nat) : Int) := by
        have hm : l * 2 ^ h < 2 ^ 7 * 2 ^ 7 := by
          calc l * 2 ^ h < 2 ^ h * 2 ^ h := Nat.mul_lt_mul_of_pos_right hin1 (Nat.pow_pos (by omega))
            _ ≤ 2 ^ 7 * 2 ^ 7 := Nat.mul_le_mul hp7 hp7
        have e1 : (l : Int) * 2 ^ h = ((l * 2 ^ h : Nat) : Int) := by push_cast; rfl
        have e2 : wrap64 ((l * 2 ^ h : Nat) : Int) = ((l * 2 ^ h : Nat) : Int) := by unfold wrap64; omega
        rw [e1, e2, i64_or_nat _ _ (by omega) (by omega)]
        unfold joi
        simp only
        rw [Nat.mul_comm, Nat.two_pow_add_eq_or_of_lt hin2]
      go_wp2_with fail
      have e4 : turnN h [a, b, c, d] n = joi h (l, r) := by rw [HT.out, HP.out.1]; rfl
      go_ret
      exact ⟨by rw [e4] <;> rfl, B1⟩

end Go.Proofs.Ytdpkjbjnjkoeaaa
