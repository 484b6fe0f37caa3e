/-
  PjAf: PmP, PmN.
-/
import Derived.Test.YtjbhallhmnahbaaGreatPjAe
import Derived.Test.YtjbhallhmnahbaaGreatPjAc
import Derived.Deep.LoopGhost

set_option linter.unusedVariables false

/-
  pm: persist.
-/
namespace Go.Proofs.YtjbhallhmnahbaaGreat
open Go.RowKit

/-! ### What is persisted -/
def linesOf (S : Nat → Bool) (l : Nat) : Bool := (List.range 8).any fun j => S (8 * l + j)
theorem linesOf_iff {S : Nat → Bool} {l : Nat} : linesOf S l = true ↔ ∃ i, S i = true ∧ i / 8 = l := by
  unfold linesOf
  rw [List.any_eq_true]
  constructor
  · rintro ⟨j, hj, hs⟩
    rw [List.mem_range] at hj
    exact ⟨8 * l + j, hs, by omega⟩
  · rintro ⟨i, hs, hl⟩
    refine ⟨i % 8, by rw [List.mem_range]; omega, ?_⟩
    rw [show 8 * l + i % 8 = i by omega]
    exact hs
def addS (S : Nat → Bool) (x : Nat) : Nat → Bool := fun i => S i || decide (i = x)
theorem linesOf_add (S : Nat → Bool) (x l : Nat) : linesOf (addS S x) l = (linesOf S l || decide (l = x / 8)) := by
  rw [Bool.eq_iff_iff, linesOf_iff, Bool.or_eq_true, linesOf_iff, decide_eq_true_eq]
  unfold addS
  constructor
  · rintro ⟨i, hs, hl⟩
    rw [Bool.or_eq_true, decide_eq_true_eq] at hs
    rcases hs with hs | rfl
    · exact .inl ⟨i, hs, hl⟩
    · exact .inr hl.symm
  · rintro (⟨i, hs, hl⟩ | rfl)
    · exact ⟨i, by simp [hs], hl⟩
    · exact ⟨x, by simp, rfl⟩
def inL (L : List Nat) (k : Nat) : Nat → Bool := fun i => decide (i ∈ L.take k)
theorem inL_zero (L : List Nat) : inL L 0 = fun _ => false := by funext i; simp [inL]
theorem inL_succ {L : List Nat} {k x : Nat} (h : L[k]? = some x) : inL L (k + 1) = addS (inL L k) x := by
  funext i
  unfold inL addS
  rw [List.take_add_one, h]
  simp
theorem inL_not {L : List Nat} {k x : Nat} (h : L[k]? = some x) (hn : L.Nodup) : inL L k x = false := by
  unfold inL
  rw [decide_eq_false_iff_not]
  intro hm
  obtain ⟨j, hj, e⟩ := List.mem_iff_getElem.1 hm
  rw [List.getElem_take] at e
  obtain ⟨hk, e2⟩ := List.getElem?_eq_some_iff.1 h
  have hjl : j < L.length := by rw [List.length_take] at hj; omega
  have hjk : j < k := by rw [List.length_take] at hj; omega
  have := (List.getElem_inj hn (h₀ := hjl) (h₁ := hk)).1 (e.trans e2.symm)
  omega
def perMed (D : DevS) (S : Nat → Bool) : Nat → Nat := fun i => if S i = true ∧ D.bad (i / 8) = false then ((D.buf (i : Int)).getD (0, false)).1 else D.med i
def perBuf (D : DevS) (S : Nat → Bool) : Int → Option (Nat × Bool) := fun z => if 0 ≤ z ∧ S z.toNat = true then none else D.buf z
def perS (D : DevS) (S : Nat → Bool) : DevS := { D with med := perMed D S, buf := perBuf D S }
def perWear (D : DevS) (T : Nat → Bool) : Nat → Int := fun l => if T l = true then D.wear l + 1 else D.wear l
def persistD (D : DevS) (S : Nat → Bool) : DevS := { D with med := perMed D S, buf := perBuf D S, wear := perWear D (linesOf S) }
def wornF (S : Nat → Bool) : Int → Option Unit := fun z => if 0 ≤ z ∧ linesOf S z.toNat = true then some () else none
theorem perMed_none (D : DevS) : perMed D (fun _ => false) = D.med := by funext i; simp [perMed]
theorem perBuf_none (D : DevS) : perBuf D (fun _ => false) = D.buf := by funext i; simp [perBuf]
theorem perS_none (D : DevS) : perS D (fun _ => false) = D := by unfold perS; rw [perMed_none, perBuf_none]
theorem wornF_none : wornF (fun _ => false) = fun _ => none := by
  funext z
  unfold wornF
  rw [if_neg]
  rintro ⟨_, h⟩
  obtain ⟨i, h, _⟩ := linesOf_iff.1 h
  cases h
theorem perMed_bad {D : DevS} {S : Nat → Bool} {x : Nat} (hb : D.bad (x / 8) = true) : perMed D (addS S x) = perMed D S := by
  funext i
  unfold perMed addS
  by_cases e : i = x
  · subst e; rw [if_neg (by simp [hb]), if_neg (by simp [hb])]
  · simp [e]
theorem perMed_good {D : DevS} {S : Nat → Bool} {x v : Nat} {f : Bool} (hb : D.bad (x / 8) = false) (hv : D.buf (x : Int) = some (v, f)) : perMed D (addS S x) = fun j => if j = x then v else perMed D S j := by
  funext i
  unfold perMed addS
  by_cases e : i = x
  · subst e; simp [hb, hv]
  · simp [e]
theorem perBuf_add (D : DevS) (S : Nat → Bool) (x : Nat) : perBuf D (addS S x) = updZ (perBuf D S) (x : Int) none := by
  funext z
  unfold perBuf addS updZ
  by_cases e : z = (x : Int)
  · subst e; simp
  · rw [if_neg e]
    by_cases h0 : 0 ≤ z
    · have : ¬ z.toNat = x := by omega
      simp [this]
    · simp [h0]
theorem perBuf_at {D : DevS} {S : Nat → Bool} {x : Nat} (h : S x = false) : perBuf D S (x : Int) = D.buf (x : Int) := by
  unfold perBuf
  rw [if_neg (by simp [h])]
theorem wornF_add (S : Nat → Bool) (x : Nat) : wornF (addS S x) = updZ (wornF S) ((x / 8 : Nat) : Int) (some ()) := by
  funext z
  unfold wornF updZ
  rw [linesOf_add]
  by_cases e : z = ((x / 8 : Nat) : Int)
  · rw [if_pos e, if_pos]
    have : z.toNat = x / 8 := by omega
    exact ⟨by omega, by simp [this]⟩
  · rw [if_neg e]
    by_cases h0 : 0 ≤ z
    · have : ¬ z.toNat = x / 8 := by omega
      simp [this]
    · simp [h0]

def unitVal (_ : Unit) : Value := .agg #[]
def unitR : Value → Option (DataW Unit × List MemPlace)
  | .agg cs => if cs.toList = [] then some (.agg [], []) else none
  | _ => none
theorem unitR_inv (v : Value) (y : DataW Unit × List MemPlace) (h : unitR v = some y) : ∃ a, v = unitVal a ∧ y = (.agg [], []) := by
  unfold unitR at h
  split at h
  · rename_i cs
    split at h
    · rename_i hl
      cases h
      refine ⟨(), ?_, rfl⟩
      unfold unitVal
      congr 1
      exact Array.ext' hl
    · cases h
  · cases h
noncomputable def unitE : EltLaw Tryz.prog 203 Unit where
  val := unitVal
  enc := fun _ => .agg []
  R := unitR
  R_mk := fun _ => rfl
  R_inv := unitR_inv
  enc_inj := fun _ _ _ => rfl
  zero := ()
  zero_run := fun _ => by kernel_rfl
theorem undSet : Tryz.prog.underlying 202 = some (.map 3 203) := Tryz.underlying202

/-! ### The first loop -/
structure Per1 (w wr : World) (a : DevA) (D : DevS) (L : List Nat) (bn k : Nat) : Prop where
  dev : DevIs wr a (perS D (inL L k))
  worn : MapZ unitE 3 wr bn k (wornF (inL L k))
  gr : Gr a.all w wr
  bn : w.heap.size ≤ bn
  fresh : ∀ b ∈ a.all, b < w.heap.size
theorem Per1.ne {w wr : World} {a : DevA} {D : DevS} {L : List Nat} {bn k : Nat} (h : Per1 w wr a D L bn k) : bn ∉ a.all := fun e => by have := h.fresh _ e; have := h.bn; omega
theorem perBuf_sup {a : DevA} {D : DevS} {S : Nat → Bool} {wr : World} (h : DevIs wr a (perS D S)) (x : Int) : (∀ z, updZ (perBuf D S) x none z ≠ none → 0 ≤ z ∧ z < 8 * D.n) ∧ ∀ z p, updZ (perBuf D S) x none z = some p → p.1 < 18446744073709551616 := by
  constructor
  · intro z hz
    unfold updZ at hz
    by_cases e : z = x
    · rw [if_pos e] at hz; exact absurd rfl hz
    · rw [if_neg e] at hz; exact h.ok.sup z hz
  · intro z p hz
    unfold updZ at hz
    by_cases e : z = x
    · rw [if_pos e] at hz; cases hz
    · rw [if_neg e] at hz; exact h.ok.bufB z p hz
/-- A round: the word's medium was written or not (state E at world w1), the word goes from the buffer, its line is noted. -/
theorem Per1.step {w wr w1 w2 w3 : World} {a : DevA} {D E : DevS} {L : List Nat} {bn k x : Nat} {y : Int} (Q : Per1 w wr a D L bn k) (hx : L[k]? = some x) (hE : { E with buf := updZ E.buf (x : Int) none } = perS D (inL L (k + 1))) (hB : E.buf = perBuf D (inL L k)) (hc : E.cnt = D.cnt)
    (d1 : DevIs w1 a E) (g1 : Gr [a.bm] wr w1) (m2 : MapZ cellE 3 w2 a.bb D.cnt (updZ (perBuf D (inL L k)) (x : Int) none)) (g2 : Gr [a.bb] w1 w2) (hy : y = ((x / 8 : Nat) : Int)) (m3 : MapZ unitE 3 w3 bn (k + 1) (updZ (wornF (inL L k)) y (some ()))) (g3 : Gr [bn] w2 w3) : Per1 w w3 a D L bn (k + 1) := by
  have sp := perBuf_sup Q.dev (x : Int)
  have hn : E.n = D.n := by have q := congrArg DevS.n hE; exact q
  refine ⟨?_, ?_, ?_, Q.bn, Q.fresh⟩
  · rw [← hE]
    have r := d1.setBuf (f := updZ E.buf (x : Int) none) (by rw [hB, hc]; exact m2) g2 (by rw [hB, hn]; exact sp.1) (by rw [hB]; exact sp.2)
    exact r.gr g3 (fun b hb e => by rw [List.mem_singleton] at e; subst e; exact Q.ne hb)
  · rw [inL_succ hx, wornF_add, ← hy]; exact m3
  · exact ((Q.gr.nextN g1 (fun b hb => by rw [List.mem_singleton] at hb; subst hb; exact .inl (by simp [DevA.all]))).nextN g2 (fun b hb => by rw [List.mem_singleton] at hb; subst hb; exact .inl (by simp [DevA.all]))).nextN g3 (fun b hb => by rw [List.mem_singleton] at hb; subst hb; exact .inr Q.bn)

/-! ### The second loop -/
structure Per2 (w wr : World) (a : DevA) (D : DevS) (S : Nat → Bool) (bn r m g : Nat) (left : Int → Bool) : Prop where
  dev : DevIs wr a { perS D S with wear := perWear D (fun l => linesOf S l && !left (l : Int)) }
  ran : RanZ unitE 3 wr bn r m (wornF S) left g
  gr : Gr a.all w wr
  bn : w.heap.size ≤ bn
  br : w.heap.size ≤ r
  fresh : ∀ b ∈ a.all, b < w.heap.size
theorem Per2.step {w wr w1 : World} {a : DevA} {D : DevS} {S : Nat → Bool} {bn r m g g' l : Nat} {left : Int → Bool} (Q : Per2 w wr a D S bn r m g left) (hl : left (l : Int) = true) (hS : linesOf S l = true) (g1 : Gr [r] wr w1) (R : RanZ unitE 3 w1 bn r m (wornF S) (fun y => left y && !decide (y = (l : Int))) g') :
    Per2 w (w1.setCell ⟨a.bw, l, none⟩ (.int .i64 (D.wear l + 1))) a D S bn r m g' (fun y => left y && !decide (y = (l : Int))) := by
  have nr : r ∉ a.all := fun e => by have := Q.fresh _ e; have := Q.br; omega
  have nb : bn ∉ a.all := fun e => by have := Q.fresh _ e; have := Q.bn; omega
  have hw : a.bw ∈ a.all := by simp [DevA.all]
  have d1 := Q.dev.gr g1 (fun b hb e => by rw [List.mem_singleton] at e; subst e; exact nr hb)
  have g2 := grSet w1 a.bw l (.int .i64 (D.wear l + 1))
  refine ⟨?_, R.gr g2 (fun e => by rw [List.mem_singleton] at e; subst e; exact nb hw) (fun e => by rw [List.mem_singleton] at e; subst e; exact nr hw), ?_, Q.bn, Q.br, Q.fresh⟩
  · have e : (fun j => if j = l then D.wear l + 1 else perWear D (fun l => linesOf S l && !left (l : Int)) j) = perWear D (fun j => linesOf S j && !(left (j : Int) && !decide ((j : Int) = (l : Int)))) := by
      funext j
      unfold perWear
      by_cases q : j = l
      · subst q; simp [hS]
      · have q2 : ¬ ((j : Int) = (l : Int)) := by omega
        simp [q, q2]
    have r := d1.setWear l (D.wear l + 1)
    exact cast (congrArg (fun f => DevIs (w1.setCell ⟨a.bw, l, none⟩ (.int .i64 (D.wear l + 1))) a { perS D S with wear := f }) e) r
  · exact (Q.gr.nextN g1 (fun b hb => by rw [List.mem_singleton] at hb; subst hb; exact .inr Q.br)).nextN g2 (fun b hb => by rw [List.mem_singleton] at hb; subst hb; exact .inl hw)

set_option maxRecDepth 20000 in
set_option maxHeartbeats 2000000 in
theorem persist_any (a : DevA) (D : DevS) (ao : Option Addr) (bl c : Nat) (L : List Nat) (W : World) (h : DevIs W a D) (hao : ∀ k, k < L.length → ao = some ⟨bl, 0, none⟩) (hL : ∀ k (x : Nat), L[k]? = some x → W.cell? ⟨bl, k, none⟩ = some (.int .i64 (x : Int)))
    (hbl : L ≠ [] → bl ∉ a.all ∧ bl < W.heap.size) (hnd : L.Nodup) (hin : ∀ x ∈ L, x < 8 * D.n ∧ D.buf (x : Int) ≠ none) (hm : L.length < 4611686018427387904) (hwear : ∀ l, 0 ≤ D.wear l ∧ D.wear l < 4611686018427387904) :
    Calls Tryz.prog 72 #[.pointer (some ⟨a.bd, 0, none⟩), .slice ao L.length c] W fun e W' => e = .returned (.tuple #[]) ∧ DevIs W' a (persistD D (inL L L.length)) ∧ Gr a.all W W' := by
  have H := Lib.hid h
  have HA := Lib.hid hao
  have HL := Lib.hid hL
  have HB := Lib.hid hbl
  have HN := Lib.hid hnd
  have HI := Lib.hid hin
  have HWE := Lib.hid hwear
  have hn := h.ok.hi
  clear h hao hL hbl hnd hin hwear
  obtain ⟨m, hm2⟩ : ∃ m, m = L.length := ⟨_, rfl⟩
  rw [← hm2] at hm ⊢
  have HM := Lib.hid hm2
  clear hm2
  have hmm := @run_makeMap Tryz.prog
  go_enter Tryz.func72, Tryz.ntmps72
  go_wp2_with fail
  have P1 : Per1 W (W.alloc (.map #[] 0)) a D L W.heap.size 0 := by
    have g := (Gr.refl [] W).alloc (.map #[] 0)
    refine ⟨?_, ?_, g.of0, Nat.le_refl _, H.out.lt⟩
    · rw [inL_zero, perS_none]; exact H.out.gr0 g
    · rw [inL_zero, wornF_none]; exact MapZ.made W
  generalize W.alloc (.map #[] 0) = wa at *
  obtain ⟨bn, hbn⟩ : ∃ bn, W.heap.size = bn := ⟨_, rfl⟩
  rw [hbn] at P1 ⊢
  clear hbn
  go_loopw [12] (fun z wr => ∃ k : Nat, k ≤ m ∧ z = .int .i64 (k : Int) ∧ Per1 W wr a D L bn k) (fun z _ => m - (intOf z).toNat)
  case atStart => exact ⟨0, by omega, rfl, P1⟩
  case round =>
    clear P1
    obtain ⟨k, hk, rfl, Q⟩ := hrel
    by_cases hlt : k < m
    · obtain ⟨x, hx⟩ : ∃ x, L[k]? = some x := ⟨L[k]'(by have := HM.out; omega), List.getElem?_eq_getElem _⟩
      have hxm : x ∈ L := List.mem_of_getElem? hx
      obtain ⟨hx8, hxb⟩ := HI.out x hxm
      have hao := HA.out k (by have := HM.out; omega)
      have hbb := HB.out (List.ne_nil_of_mem hxm)
      have e0 : wr.cell? ⟨bl, k, none⟩ = some (.int .i64 (x : Int)) := (World.cell?_of_block (w := W) (Q.gr.block bl hbb.2 hbb.1)).trans (HL.out k x hx)
      have c1 := Q.dev.c1
      have c3 := Q.dev.c3
      have c0 := Q.dev.c0
      have hb : wr.cell? ⟨a.bg, x / 8, none⟩ = some (.bool (D.bad (x / 8))) := Q.dev.badAt (show x / 8 < D.n by omega)
      have nS := inL_not hx HN.out
      obtain ⟨⟨v, f⟩, hv⟩ := Option.ne_none_iff_exists'.1 hxb
      have HZ := Lib.hid (show WfZ (x : Int) from wfZ (by omega) (by omega))
      have HZ8 := Lib.hid (show WfZ ((x : Int) / 8) from wfZ (by omega) (by omega))
      have HQ := Lib.hid (And.intro Q nS)
      have HX := Lib.hid (And.intro hx hv)
      have HK := Lib.hid (show (x : Int) / 8 = ((x / 8 : Nat) : Int) by omega)
      have hmed : wr.cell? ⟨a.bm, x, none⟩ = some (.int .u64 (perMed D (inL L k) x : Int)) := Q.dev.medAt (show x < 8 * D.n by omega)
      have hfz := Q.dev.med.frozen x
      have hlk : (Instr.lookup 100 (.map (some a.bb)) (.int .i64 (x : Int)) false).run Tryz.prog wr.drew = .ok (.agg #[.int .u64 (v : Int), .bool f]) wr.drew := by
        have r := (Q.dev.buf.gr0 (Gr.refl [] wr).drew).look (t := 100) undInt undMap HZ.out
        rw [show (perS D (inL L k)).buf = perBuf D (inL L k) from rfl, perBuf_at nS, hv] at r
        exact r
      have hfld : ∀ ww : World, (Instr.field 144 (.agg #[.int .u64 (v : Int), .bool f]) 0).run Tryz.prog ww = .ok (.int .u64 (v : Int)) ww := fun ww => by kernel_rfl
      clear Q nS hx hxb hxm hv hbb
      rw [show (perS D (inL L k)).n = D.n from rfl] at c0 c3
      obtain ⟨N, hN⟩ : ∃ N, N = D.n := ⟨_, rfl⟩
      rw [← hN] at c0 c3 hx8 hn
      have HNN := Lib.hid hN
      clear hN
      subst hao
      cases hbad : D.bad (x / 8) with
      | true =>
        rw [hbad] at hb
        have HBAD := Lib.hid hbad
        clear hbad hlk hmed hfz hfld
        go_wp2_with (first
          | (at_delete; refine wp_delZ rfl _ _ rfl rfl HQ.out.1.dev.buf undInt undMap (x : Int) rfl HZ.out ?_; intro w2 M2 G2 hs2; clear hs2)
          | (at_mapUpdate; refine wp_putZ rfl _ _ _ rfl rfl (HQ.out.1.worn.gr G2 (fun e => by rw [List.mem_singleton] at e; exact HQ.out.1.ne (by rw [e]; simp [DevA.all]))) (by unfold maxLen; omega) undInt undSet ((x : Int) / 8) rfl HZ8.out () rfl ?_; intro w3 M3 G3 hs3; clear hs3))
        have HF := Lib.hid (HQ.out.1.step (E := perS D (inL L k)) HX.out.1 (by unfold perS; rw [inL_succ HX.out.1, perMed_bad HBAD.out, perBuf_add]) rfl rfl HQ.out.1.dev (Gr.refl _ _) M2 G2 HK.out M3 G3)
        clear M2 G2 M3 G3
        go_roundw
        case rel => exact ⟨k + 1, by omega, by go_num, HF.out⟩
        case measure => simp [intOf]; omega
      | false =>
        rw [hbad] at hb
        have HBAD := Lib.hid hbad
        clear hbad
        have hvb : v < 18446744073709551616 := H.out.ok.bufB _ _ HX.out.2
        have HD1 := Lib.hid (And.intro (HQ.out.1.dev.gr0 (Gr.refl _ _).drew |>.setMed x v hvb) (((Gr.refl [a.bm] wr).drew).trans (grSet wr.drew a.bm x (.int .u64 (v : Int)))))
        have HVB := Lib.hid hvb
        clear hvb
        go_wp2_with fail
        have hxi : (x : Int) < 8 * (N : Int) := by omega
        have n1 : ¬ a.bd = a.bm := (nd5 H.out.nd).1
        have n2 : ¬ a.bm = a.bd := fun e => n1 e.symm
        go_still_tail 13, (by kernel_rfl)
        clear hxi
        go_wp2_with (first
          | (at_delete; refine wp_delZ rfl _ _ rfl rfl HD1.out.1.buf undInt undMap (x : Int) rfl HZ.out ?_; intro w2 M2 G2 hs2; clear hs2)
          | (at_mapUpdate; refine wp_putZ rfl _ _ _ rfl rfl ((HQ.out.1.worn.gr HD1.out.2 (fun e => by rw [List.mem_singleton] at e; exact HQ.out.1.ne (by rw [e]; simp [DevA.all]))).gr G2 (fun e => by rw [List.mem_singleton] at e; exact HQ.out.1.ne (by rw [e]; simp [DevA.all]))) (by unfold maxLen; omega) undInt undSet ((x : Int) / 8) rfl HZ8.out () rfl ?_; intro w3 M3 G3 hs3; clear hs3))
        clear n1 n2
        have HF := Lib.hid (HQ.out.1.step (E := { perS D (inL L k) with med := fun j => if j = x then v else (perS D (inL L k)).med j }) HX.out.1 (by unfold perS; rw [inL_succ HX.out.1, perMed_good HBAD.out HX.out.2, perBuf_add]) rfl rfl HD1.out.1 HD1.out.2 M2 G2 HK.out M3 G3)
        clear M2 G2 M3 G3
        go_roundw
        case rel => exact ⟨k + 1, by omega, by go_num, HF.out⟩
        case measure => simp [intOf]; omega
    · obtain rfl : k = m := by omega
      have HQ := Lib.hid Q
      clear Q
      go_wp2_with (at_range; refine wp_rangeZ rfl _ rfl rfl HQ.out.worn undInt undSet ?_; intro w2 cnt R2 G2 hs2; clear hs2)
      have P2 : Per2 W w2 a D (inL L k) bn wr.heap.size k cnt (fun z => (wornF (inL L k) z).isSome) := by
        refine ⟨?_, R2, HQ.out.gr.next0 G2, HQ.out.bn, HQ.out.gr.size, HQ.out.fresh⟩
        have e : perWear D (fun l => linesOf (inL L k) l && !(wornF (inL L k) (l : Int)).isSome) = D.wear := by
          funext l
          unfold perWear wornF
          cases hl : linesOf (inL L k) l <;> simp [hl]
        rw [e]
        exact HQ.out.dev.gr0 G2
      clear R2 G2
      generalize wr.heap.size = r at *
      go_frame
      go_loopg [8] cnt (fun g _ wr => ∃ left, Per2 W wr a D (inL L k) bn r k g left)
      case atStart => exact ⟨_, P2⟩
      case round =>
        clear P2
        obtain ⟨left, Q⟩ := hrel
        have HQ := Lib.hid Q
        clear Q
        go_wp2_with (at_next; refine wp_nextZ rfl _ rfl rfl HQ.out.ran undInt ?_ ?_)
        · intro hdone
          have HE := Lib.hid (show DevIs wr a (persistD D (inL L k)) by
            have e : perWear D (fun l => linesOf (inL L k) l && !left (l : Int)) = perWear D (linesOf (inL L k)) := by
              funext l
              unfold perWear
              cases hl : linesOf (inL L k) l with
              | false => simp [hl]
              | true =>
                obtain ⟨i, hi, hq⟩ := linesOf_iff.1 hl
                have := (HI.out i (List.mem_of_mem_take (of_decide_eq_true hi))).1
                have h2 := hdone (l : Int) (wfZ (by omega) (by omega))
                simp [hl, h2]
            have r := HQ.out.dev
            rw [e] at r
            exact r)
          clear hdone
          go_wp2_with fail
          go_returns
          exact ⟨rfl, HE.out, HQ.out.gr⟩
        · intro z c0 w1 cnt' hz hl hf R1 hlt G1 hs1 hen
          unfold wornF at hf
          by_cases hS : 0 ≤ z ∧ linesOf (inL L k) z.toNat = true
          · obtain ⟨l, rfl⟩ := Int.eq_ofNat_of_zero_le hS.1
            have hS2 : linesOf (inL L k) l = true := hS.2
            obtain ⟨i, hi, hq⟩ := linesOf_iff.1 hS2
            have hi8 := (HI.out i (List.mem_of_mem_take (of_decide_eq_true hi))).1
            have hln : l < D.n := by omega
            have nr : r ∉ a.all := fun e => by have := HQ.out.fresh _ e; have := HQ.out.br; omega
            have d1 := HQ.out.dev.gr G1 (fun b hb e => by rw [List.mem_singleton] at e; subst e; exact nr hb)
            have c2 := d1.c2
            have wc := d1.wearAt (i := l) hln
            have fw := d1.wear.frozen l
            have hval : perWear D (fun l => linesOf (inL L k) l && !left (l : Int)) l = D.wear l := by unfold perWear; rw [if_neg (by simp [hl])]
            rw [show (DevS.wear { perS D (inL L k) with wear := perWear D (fun l => linesOf (inL L k) l && !left (l : Int)) } l) = D.wear l from hval] at wc
            have wb := HWE.out l
            have HS := Lib.hid (HQ.out.step hl hS2 G1 R1)
            rw [show (DevS.n { perS D (inL L k) with wear := perWear D (fun l => linesOf (inL L k) l && !left (l : Int)) }) = D.n from rfl] at c2
            obtain ⟨N, hN⟩ : ∃ N, N = D.n := ⟨_, rfl⟩
            rw [← hN] at c2 hln hn
            obtain ⟨y, hy⟩ : ∃ y, D.wear l = y := ⟨_, rfl⟩
            rw [hy] at wc wb HS
            have HNN := Lib.hid (And.intro hN hy)
            have HLT := Lib.hid hlt
            clear hN hy hval hf hS hS2 hi hq hi8 nr d1 hl hz R1 G1 hs1 hlt
            go_wp2_with fail
            go_roundg cnt'
            case measure => exact HLT.out
            case rel => exact ⟨_, HS.out⟩
          · rw [if_neg hS] at hf; cases hf

end Go.Proofs.YtjbhallhmnahbaaGreat

/-
  pm.New.
-/
namespace Go.Proofs.YtjbhallhmnahbaaGreat
open Go.RowKit

theorem infoU64 : (Tryz.prog.info? 22).map (fun i => (i.zero, i.size, i.bytes)) = some (some (.int .u64 0), 1, 8) := by kernel_rfl
theorem infoI64 : (Tryz.prog.info? 3).map (fun i => (i.zero, i.size, i.bytes)) = some (some (.int .i64 0), 1, 8) := by kernel_rfl
theorem infoB : (Tryz.prog.info? 4).map (fun i => (i.zero, i.size, i.bytes)) = some (some (.bool false), 1, 1) := by kernel_rfl
/-- 'make([]T, m)' of a one-cell type, whatever the world. -/
theorem make_run {t e : TypeId} (v : Value) (bytes m : Nat) (mI : Int) (hmI : mI = m) (ht : Tryz.prog.underlying t = some (.slice e)) (hi : (Tryz.prog.info? e).map (fun i => (i.zero, i.size, i.bytes)) = some (some v, 1, bytes)) (hv : Value.cells v = #[v]) (hb : bytes ≤ 8) (hm : m ≤ 65536) (W : World) :
    (Instr.makeSlice t (.int .i64 mI) (.int .i64 mI)).run Tryz.prog W = .ok (.slice (some ⟨W.heap.size, 0, none⟩) m m) (W.alloc (.cells (rowOf (fun _ => v) m) e)) := by
  subst hmI
  obtain ⟨i0, h0, hz0, hz1, hz2⟩ := info_parts hi
  have hbm : i0.bytes * m ≤ 8 * 65536 := Nat.mul_le_mul (by omega) hm
  have hbm2 : (i0.bytes : Int) * (m : Int) ≤ 281474976710656 := by
    have q : ((i0.bytes * m : Nat) : Int) ≤ 8 * 65536 := by omega
    rw [Int.natCast_mul] at q
    omega
  have r := run_make (P := Tryz.prog) W t e i0 v ht h0 hz0 .i64 .i64 (m : Int) (m : Int) (by omega) (Int.le_refl _) hbm2 (by omega)
  simp only [Int.toNat_natCast, hz1] at r
  rw [r]
  have e := rowOf_made v hv m
  rw [← e]
def newD (n : Nat) : DevS := { n := n, med := fun _ => 0, buf := fun _ => none, wear := fun _ => 0, bad := fun _ => false, fuse := 0, off := false, cnt := 0 }
theorem newD_ok (n : Nat) (h1 : 1 ≤ n) (h2 : n ≤ 8192) : DevOk (newD n) := ⟨h1, h2, (fun z h => absurd rfl h), (fun _ => by simp [newD]), (fun z p h => by cases h), (by simp [newD])⟩

section
variable (w : World) (A B C D H : Obj)
theorem five0 : ((((((w.alloc A).alloc B).alloc C).alloc D).alloc H).drew).heap[w.heap.size]? = some A := by
  show (((((w.heap.push A).push B).push C).push D).push H)[w.heap.size]? = some A
  rw [Array.getElem?_push, if_neg (by simp only [Array.size_push]; omega), Array.getElem?_push, if_neg (by simp only [Array.size_push]; omega), Array.getElem?_push, if_neg (by simp only [Array.size_push]; omega), Array.getElem?_push, if_neg (by simp only [Array.size_push]; omega), Array.getElem?_push, if_pos rfl]
theorem five1 : ((((((w.alloc A).alloc B).alloc C).alloc D).alloc H).drew).heap[w.heap.size + 1]? = some B := by
  show (((((w.heap.push A).push B).push C).push D).push H)[w.heap.size + 1]? = some B
  rw [Array.getElem?_push, if_neg (by simp only [Array.size_push]; omega), Array.getElem?_push, if_neg (by simp only [Array.size_push]; omega), Array.getElem?_push, if_neg (by simp only [Array.size_push]; omega), Array.getElem?_push, if_pos (by simp only [Array.size_push])]
theorem five2 : ((((((w.alloc A).alloc B).alloc C).alloc D).alloc H).drew).heap[w.heap.size + 1 + 1]? = some C := by
  show (((((w.heap.push A).push B).push C).push D).push H)[w.heap.size + 1 + 1]? = some C
  rw [Array.getElem?_push, if_neg (by simp only [Array.size_push]; omega), Array.getElem?_push, if_neg (by simp only [Array.size_push]; omega), Array.getElem?_push, if_pos (by simp only [Array.size_push])]
theorem five3 : ((((((w.alloc A).alloc B).alloc C).alloc D).alloc H).drew).heap[w.heap.size + 1 + 1 + 1]? = some D := by
  show (((((w.heap.push A).push B).push C).push D).push H)[w.heap.size + 1 + 1 + 1]? = some D
  rw [Array.getElem?_push, if_neg (by simp only [Array.size_push]; omega), Array.getElem?_push, if_pos (by simp only [Array.size_push])]
theorem five4 : ((((((w.alloc A).alloc B).alloc C).alloc D).alloc H).drew).heap[w.heap.size + 1 + 1 + 1 + 1]? = some H := by
  show (((((w.heap.push A).push B).push C).push D).push H)[w.heap.size + 1 + 1 + 1 + 1]? = some H
  rw [Array.getElem?_push, if_pos (by simp only [Array.size_push])]
end
theorem new_fin {w W : World} {n b4 bm bb bw bg : Nat} {R1 R2 R3 : Array Value} (h1 : 1 ≤ n) (h2 : n ≤ 8192) (HR : rowOf (fun _ => Value.int .u64 0) (8 * n) = R1 ∧ rowOf (fun _ => Value.int .i64 0) n = R2 ∧ rowOf (fun _ => Value.bool false) n = R3)
    (hH : W.heap[b4]? = some (.cells #[.slice (some ⟨bm, 0, none⟩) (8 * n) (8 * n), .map (some bb), .slice (some ⟨bw, 0, none⟩) n n, .slice (some ⟨bg, 0, none⟩) n n, .int .i64 0, .bool false, .int .i64 0] 102))
    (q1 : W.heap[bm]? = some (.cells R1 22)) (q2 : W.heap[bb]? = some (.map #[] 0)) (q3 : W.heap[bw]? = some (.cells R2 3)) (q4 : W.heap[bg]? = some (.cells R3 4))
    (nd : [b4, bm, bb, bw, bg].Nodup) (lo : ∀ b ∈ [b4, bm, bb, bw, bg], w.heap.size ≤ b) (g : Gr [] w W) :
    DevIs W ⟨b4, bm, bb, bw, bg⟩ (newD n) ∧ (∀ b ∈ (DevA.mk b4 bm bb bw bg).all, w.heap.size ≤ b) ∧ Gr [] w W := by
  obtain ⟨rfl, rfl, rfl⟩ := HR
  refine ⟨⟨hH, q1, q3, q4, ?_, nd, newD_ok n h1 h2⟩, lo, g⟩
  exact ⟨.map [], ⟨#[], 0, q2, ⟨by simp, MapKept.stamped_empty 0, by simp⟩, Nat.le_refl _, rfl⟩, MIs.empty⟩
set_option maxRecDepth 20000 in
set_option maxHeartbeats 4000000 in
theorem pmnew_yes (n : Nat) (w : World) (h1 : 1 ≤ n) (h2 : n ≤ 8192) :
    Calls Tryz.prog 10 #[.int .i64 n] w fun e w' => ∃ a : DevA, e = .returned (.tuple #[.pointer (some ⟨a.bd, 0, none⟩), .int .i64 0]) ∧ DevIs w' a (newD n) ∧ (∀ b ∈ a.all, w.heap.size ≤ b) ∧ Gr [] w w' := by
  have m1 := fun W => make_run (.int .u64 0) 8 (8 * n) ((n : Int) * 8) (by omega) Tryz.underlying99 infoU64 rfl (by omega) (by omega) W
  have m2 := fun W => make_run (.int .i64 0) 8 n (n : Int) rfl Tryz.underlying61 infoI64 rfl (by omega) (by omega) W
  have m3 := fun W => make_run (.bool false) 1 n (n : Int) rfl Tryz.underlying45 infoB rfl (by omega) (by omega) W
  have hmm := @run_makeMap Tryz.prog
  generalize hr1 : rowOf (fun _ => Value.int .u64 0) (8 * n) = R1 at *
  generalize hr2 : rowOf (fun _ => Value.int .i64 0) n = R2 at *
  generalize hr3 : rowOf (fun _ => Value.bool false) n = R3 at *
  have HR := Lib.hid (And.intro hr1 (And.intro hr2 hr3))
  clear hr1 hr2 hr3
  have hd1 : decide ((n : Int) < 1) = false := by simp; omega
  have hd2 : decide ((8192 : Int) < (n : Int)) = false := by simp; omega
  go_enter Tryz.func10, Tryz.ntmps10
  go_wp2_with fail
  go_region
  all_goals go_wp2
  all_goals go_ret2
  all_goals
    refine ⟨⟨_, _, _, _, _⟩, rfl, new_fin (w := w) h1 h2 HR.out (five4 w _ _ _ _ _) ?_ ?_ ?_ ?_ ?_ ?_ ?_⟩
    · first | exact five0 w _ _ _ _ _ | exact five1 w _ _ _ _ _ | exact five2 w _ _ _ _ _ | exact five3 w _ _ _ _ _
    · first | exact five0 w _ _ _ _ _ | exact five1 w _ _ _ _ _ | exact five2 w _ _ _ _ _ | exact five3 w _ _ _ _ _
    · first | exact five0 w _ _ _ _ _ | exact five1 w _ _ _ _ _ | exact five2 w _ _ _ _ _ | exact five3 w _ _ _ _ _
    · first | exact five0 w _ _ _ _ _ | exact five1 w _ _ _ _ _ | exact five2 w _ _ _ _ _ | exact five3 w _ _ _ _ _
    · simp only [List.nodup_cons, List.mem_cons, List.not_mem_nil, or_false, not_or, List.nodup_nil, and_true, not_false_eq_true]; omega
    · intro b hb; simp only [List.mem_cons, List.not_mem_nil, or_false] at hb; omega
    · exact ((((((Gr.refl _ _).alloc _).alloc _).alloc _).alloc _).alloc _).drew

end Go.Proofs.YtjbhallhmnahbaaGreat
