/-
  SkAc: PmF, PmP.
-/
import Derived.Test.YtifekejcbhllpaaGreatSkAb
import Derived.Deep.LoopGhost

set_option linter.unusedVariables false

/-
  pm.Flush.
-/
namespace Go.Proofs.YtifekejcbhllpaaGreat
open Go.RowKit

/-- The first j words of a line are flushed. -/
def flF (f : Int → Option (Nat × Bool)) (l j : Nat) : Int → Option (Nat × Bool) := fun z => if 8 * (l : Int) ≤ z ∧ z < 8 * l + j then (f z).map fun p => (p.1, true) else f z
theorem flF_zero (f : Int → Option (Nat × Bool)) (l : Nat) : flF f l 0 = f := by
  funext z
  unfold flF
  rw [if_neg (by omega)]
theorem flF_at (f : Int → Option (Nat × Bool)) (l j : Nat) : flF f l j ((8 * l + j : Nat) : Int) = f ((8 * l + j : Nat) : Int) := by
  unfold flF
  rw [if_neg (by omega)]
theorem flF_none (f : Int → Option (Nat × Bool)) (l j : Nat) (h : f ((8 * l + j : Nat) : Int) = none) : flF f l (j + 1) = flF f l j := by
  funext z
  unfold flF
  by_cases e : z = ((8 * l + j : Nat) : Int)
  · subst e
    rw [h]
    simp
  · by_cases c : 8 * (l : Int) ≤ z ∧ z < 8 * l + j
    · rw [if_pos c, if_pos (by omega)]
    · rw [if_neg c, if_neg (by omega)]
theorem flF_some (f : Int → Option (Nat × Bool)) (l j : Nat) {p : Nat × Bool} (h : f ((8 * l + j : Nat) : Int) = some p) : flF f l (j + 1) = updZ (flF f l j) ((8 * l + j : Nat) : Int) (some (p.1, true)) := by
  funext z
  unfold flF updZ
  by_cases e : z = ((8 * l + j : Nat) : Int)
  · subst e
    rw [if_pos rfl, if_pos (by omega), h]
    rfl
  · rw [if_neg e]
    simp only
    by_cases c : 8 * (l : Int) ≤ z ∧ z < 8 * l + j
    · rw [if_pos c, if_pos (by omega)]
    · rw [if_neg c, if_neg (by omega)]
set_option maxRecDepth 20000 in
set_option maxHeartbeats 2000000 in
theorem flush1 (a : DevA) (D : DevS) (p0 p1 l : Nat) (W : World) (h : DevIs W a D) (c0 : W.cell? ⟨p0, 0, none⟩ = some (.int .i64 (l : Int))) (c1 : W.cell? ⟨p1, 0, none⟩ = some (.pointer (some ⟨a.bd, 0, none⟩)))
    (hl : l < D.n) (hc : D.cnt < 4611686018427387904) (n0 : p0 ≠ a.bb) (n1 : p1 ≠ a.bb) :
    Calls Tryz.prog 169 #[.pointer (some ⟨p0, 0, none⟩), .pointer (some ⟨p1, 0, none⟩)] W fun e W' => e = .returned (.tuple #[]) ∧ Did a D (withBuf D (flF D.buf l 8)) W W' := by
  have H := Lib.hid h
  have hn := h.ok.hi
  have C0 := Lib.hid c0
  have C1 := Lib.hid c1
  have hb0 := block_lt_of_cell c0
  have hb1 := block_lt_of_cell c1
  simp only at hb0 hb1
  clear h c1
  go_enter Tryz.func169, Tryz.ntmps169
  go_wp2_with fail
  clear c0
  go_loopw [2] (fun z wr => ∃ j : Nat, j ≤ 8 ∧ z = .int .i64 ((8 * l + j : Nat) : Int) ∧ MapZ cellE 3 wr a.bb D.cnt (flF D.buf l j) ∧ Gr [a.bb] W wr) (fun z _ => 8 * l + 8 - (intOf z).toNat)
  case atStart => exact ⟨0, by omega, by go_num, by rw [flF_zero]; exact H.out.buf, Gr.refl _ _⟩
  case round =>
    obtain ⟨j, hj, rfl, M1, G1⟩ := hrel
    have e0 : wr.cell? ⟨p0, 0, none⟩ = some (.int .i64 (l : Int)) := (World.cell?_of_block (w := W) (G1.block p0 hb0 (by simpa using n0))).trans C0.out
    have e1 : wr.cell? ⟨p1, 0, none⟩ = some (.pointer (some ⟨a.bd, 0, none⟩)) := (World.cell?_of_block (w := W) (G1.block p1 hb1 (by simpa using n1))).trans C1.out
    have nd := nd5 H.out.nd
    have d1 : wr.cell? ⟨a.bd, 1, none⟩ = some (.map (some a.bb)) := (H.out.head.gr G1 (by simpa using nd.2.1)).cell 1
    have HND := Lib.hid nd
    clear nd
    by_cases hlt : j < 8
    · have hz : WfZ ((8 * l + j : Nat) : Int) := wfZ (by omega) (by omega)
      have HZ := Lib.hid hz
      have HM := Lib.hid (And.intro M1 G1)
      clear hz M1 G1
      obtain ⟨q, hq⟩ : ∃ q : Nat, q = 8 * l + j := ⟨_, rfl⟩
      rw [← hq] at HZ ⊢
      have hq2 : q < 8 * l + 8 := by omega
      have HQ := Lib.hid hq
      cases hb : D.buf (q : Int) with
      | some p =>
        obtain ⟨v, f⟩ := p
        have HV := Lib.hid (show Value.tuple #[cellE.val ((flF D.buf l j (q : Int)).getD cellE.zero), .bool (flF D.buf l j (q : Int)).isSome] = .tuple #[.agg #[.int .u64 (v : Int), .bool f], .bool true] by rw [hq, flF_at, ← hq, hb]; rfl)
        have HS := Lib.hid (flF_some D.buf l j (by rw [← hq]; exact hb))
        have HO := Lib.hid (show (flF D.buf l j (q : Int)).isSome = true by rw [hq, flF_at, ← hq, hb]; rfl)
        clear hb hq
        go_wp2_with (at_lookup; refine wp_lookZ_oks rfl _ _ rfl rfl HM.out.1 undInt undMap (q : Int) rfl HZ.out _ HV.out ?_)
        have X1 := Holds.new wr #[.int .u64 v, .bool f] 150
        have m1 : a.bd ≠ wr.heap.size := by have := block_lt_of_cell d1; simp only at this; omega
        have m2 : p1 ≠ wr.heap.size := by have := HM.out.2.size; omega
        have y1 : (wr.alloc (Obj.cells #[.int .u64 v, .bool f] 150)).cell? ⟨wr.heap.size, 0, none⟩ = some (.int .u64 v) := X1.cell 0
        have g1 := (Gr.refl [] wr).alloc (Obj.cells #[.int .u64 v, .bool f] 150)
        have e1b : (wr.alloc (Obj.cells #[.int .u64 v, .bool f] 150)).cell? ⟨p1, 0, none⟩ = some (.pointer (some ⟨a.bd, 0, none⟩)) := (g1.cell0 (by have := HM.out.2.size; omega)).trans e1
        have d1b : (wr.alloc (Obj.cells #[.int .u64 v, .bool f] 150)).cell? ⟨a.bd, 1, none⟩ = some (.map (some a.bb)) := (g1.cell0 (by have := block_lt_of_cell d1; simpa using this)).trans d1
        have HG := Lib.hid (And.intro (HM.out.1.gr0 g1.drew) (HM.out.2.next0 g1.drew))
        clear X1 g1 e0 e1 d1 m1 m2
        generalize wr.alloc (Obj.cells #[.int .u64 v, .bool f] 150) = wb at *
        generalize wr.heap.size = b3 at *
        go_still_tail 8, (by kernel_rfl)
        go_wp2_with (at_mapUpdate; refine wp_putZ_old rfl _ _ _ rfl rfl HG.out.1 (by unfold maxLen; omega) undInt undMap (q : Int) rfl HZ.out (v, true) rfl HO.out ?_; intro w3 M3 G3 hs3)
        have HF := Lib.hid (And.intro (show MapZ cellE 3 w3 a.bb D.cnt (flF D.buf l (j + 1)) by rw [HS.out, ← HQ.out]; exact M3) (HG.out.2.trans G3))
        clear M3 G3 hs3 HG HM
        go_wp2
        go_roundw
        case rel => exact ⟨j + 1, by omega, by have := HQ.out; go_num, HF.out.1, HF.out.2⟩
        case measure => simp [intOf]; omega
      | none =>
        have HV := Lib.hid (show Value.tuple #[cellE.val ((flF D.buf l j (q : Int)).getD cellE.zero), .bool (flF D.buf l j (q : Int)).isSome] = .tuple #[.agg #[.int .u64 0, .bool false], .bool false] by rw [hq, flF_at, ← hq, hb]; rfl)
        have HS := Lib.hid (flF_none D.buf l j (by rw [← hq]; exact hb))
        clear hb hq
        go_wp2_with (at_lookup; refine wp_lookZ_oks rfl _ _ rfl rfl HM.out.1 undInt undMap (q : Int) rfl HZ.out _ HV.out ?_)
        have g1 := (Gr.refl [] wr).alloc (Obj.cells #[.int .u64 0, .bool false] 150)
        have HF := Lib.hid (And.intro (show MapZ cellE 3 (wr.alloc (Obj.cells #[.int .u64 0, .bool false] 150)) a.bb D.cnt (flF D.buf l (j + 1)) by rw [HS.out]; exact HM.out.1.gr0 g1) (HM.out.2.next0 g1))
        clear g1 HM
        go_roundw
        case rel => exact ⟨j + 1, by omega, by have := HQ.out; go_num, HF.out.1, HF.out.2⟩
        case measure => simp [intOf]; omega
    · obtain rfl : j = 8 := by omega
      have HD := Lib.hid (Did.ofBuf (W' := wr) (f := flF D.buf l 8) H.out (M1.mono (by omega)) G1 (by
        intro z hz
        unfold flF at hz
        by_cases c : 8 * (l : Int) ≤ z ∧ z < 8 * l + ((8 : Nat) : Int)
        · omega
        · rw [if_neg c] at hz
          exact H.out.ok.sup z hz) (by
        intro z p hz
        unfold flF at hz
        by_cases c : 8 * (l : Int) ≤ z ∧ z < 8 * l + ((8 : Nat) : Int)
        · rw [if_pos c] at hz
          cases hq : D.buf z with
          | none => rw [hq] at hz; cases hz
          | some r => rw [hq] at hz; cases hz; exact H.out.ok.bufB z r hq
        · rw [if_neg c] at hz
          exact H.out.ok.bufB z p hz))
      clear M1 G1
      go_wp2_with fail
      go_returns
      exact ⟨rfl, HD.out⟩

def flushF (z : Int) (D : DevS) : DevS := withBuf D (flF D.buf z.toNat 8)
def isLine (D : DevS) (z : Int) : Bool := decide (0 ≤ z ∧ z < D.n)
set_option maxRecDepth 20000 in
set_option maxHeartbeats 1000000 in
theorem flush_any (a : DevA) (D : DevS) (z : Int) (w : World) (h : DevIs w a D) (hc : D.cnt < 4611686018427387904) :
    Calls Tryz.prog 142 #[.pointer (some ⟨a.bd, 0, none⟩), .int .i64 z] w fun e w' => e = .returned (.int .i64 (opE D (isLine D z))) ∧ DevIs w' a (opD D (isLine D z) (flushF z)) ∧ Gr a.all w w' := by
  go_enter Tryz.func142, Tryz.ntmps142
  go_wp2_with fail
  have X0 := (Holds.new w #[.pointer (some ⟨a.bd, 0, none⟩)] 24).alloc (Obj.cells #[.int .i64 z] 3)
  have X1 := Holds.new (w.alloc (Obj.cells #[.pointer (some ⟨a.bd, 0, none⟩)] 24)) #[.int .i64 z] 3
  rw [World.size_alloc] at X1
  have HG := Lib.hid (((Gr.refl [] w).alloc (Obj.cells #[.pointer (some ⟨a.bd, 0, none⟩)] 24)).alloc (Obj.cells #[.int .i64 z] 3))
  generalize hwa : (w.alloc (Obj.cells #[.pointer (some ⟨a.bd, 0, none⟩)] 24)).alloc (Obj.cells #[.int .i64 z] 3) = wa at *
  have k0 : wa.cell? ⟨w.heap.size, 0, none⟩ = some (.pointer (some ⟨a.bd, 0, none⟩)) := X0.cell 0
  have k1 : wa.cell? ⟨w.heap.size + 1, 0, none⟩ = some (.int .i64 z) := X1.cell 0
  clear hwa
  have HT := Lib.hid (h.gr0 HG.out.drew)
  have HW := Lib.hid (hasLine_any a D _ HT.out z)
  obtain ⟨t, ht⟩ : ∃ t, isLine D z = t := ⟨_, rfl⟩
  rw [show decide (0 ≤ z ∧ z < D.n) = t from ht] at HW
  have HTT := Lib.hid ht
  clear ht
  by_cases he : reachE D t = 0
  · by_cases hf : D.fuse = 1
    · have HE := Lib.hid (And.intro (opE_fuse he hf) (fun f => opD_fuse (f := f) he hf))
      have HO := Lib.hid (fun g W (q : DevIs W a D) => operate_fuse a D t g W q he hf)
      clear he hf X0 X1 h
      go_still_tail 5, (by kernel_rfl)
      still_call (HW.out.mono fun _ _ q => ⟨q.1, q.2.symm⟩)
      repeat still_step
      refine wpStill_nil ?_
      go_wp2_with fail
      refine (HO.out _ _ HT.out).mono ?_
      rintro e w' ⟨rfl, d2, g2⟩
      have HR := Lib.hid (And.intro d2 ((HG.out.drew.of0.trans (g2.mono (cs := a.all) (fun b hb => by simp at hb; subst hb; simp [DevA.all])))))
      clear d2 g2
      go_wp2_with fail
      go_ret
      exact ⟨by rw [HTT.out, HE.out.1]; rfl, by rw [HTT.out, HE.out.2]; exact HR.out.1, HR.out.2⟩
    · obtain ⟨rfl, hoff⟩ := reach_there he
      have HE := Lib.hid (And.intro (opE_ok he hf) (fun f => opD_ok (f := f) he hf))
      have hz := of_decide_eq_true (show decide (0 ≤ z ∧ z < D.n) = true from HTT.out)
      obtain ⟨l, rfl⟩ := Int.eq_ofNat_of_zero_le hz.1
      have hlt := h.lt
      have na : ∀ k, w.heap.size ≤ k → k ∉ a.all := fun k hk hm => by have := hlt k hm; omega
      have nb : ∀ k, w.heap.size ≤ k → k ≠ a.bb := fun k hk e => na k hk (by rw [e]; simp [DevA.all])
      have HO := Lib.hid (operate_flush a D (flushF (l : Int) (lit D)) (w.heap.size + 1) w.heap.size wa.drew HT.out he hf hc (fun W g d => by
        have e0 := (X0.drew.gr g (na _ (by omega))).cell 0
        have e1 := (X1.drew.gr g (na _ (by omega))).cell 0
        exact flush1 a (lit D) (w.heap.size + 1) w.heap.size l W d e1 e0 (by have := hz.2; show l < D.n; omega) hc (nb _ (by omega)) (nb _ (by omega))))
      clear he hf X0 X1 h hoff hz hlt na nb
      go_still_tail 5, (by kernel_rfl)
      still_call (HW.out.mono fun _ _ q => ⟨q.1, q.2.symm⟩)
      repeat still_step
      refine wpStill_nil ?_
      go_wp2_with fail
      refine HO.out.mono ?_
      rintro e w' ⟨rfl, d2, g2⟩
      have HR := Lib.hid (And.intro d2 (HG.out.drew.of0.trans g2))
      clear d2 g2
      go_wp2_with fail
      go_ret
      exact ⟨by rw [HTT.out, HE.out.1]; rfl, by rw [HTT.out, HE.out.2]; exact HR.out.1, HR.out.2⟩
  · have HE := Lib.hid (And.intro (opE_err he) (fun f => opD_err (f := f) he))
    have HO := Lib.hid (fun g => operate_err a D t g _ HT.out he)
    clear he X0 X1 h
    go_still_tail 5, (by kernel_rfl)
    still_call (HW.out.mono fun _ _ q => ⟨q.1, q.2.symm⟩)
    repeat still_step
    refine wpStill_nil ?_
    go_wp2_with fail
    refine (HO.out _).mono ?_
    rintro e w' ⟨rfl, rfl⟩
    go_wp2_with fail
    go_ret
    exact ⟨by rw [HTT.out, HE.out.1]; rfl, by rw [HTT.out, HE.out.2]; exact HT.out, HG.out.drew.of0⟩

end Go.Proofs.YtifekejcbhllpaaGreat

/-
  pm: persist.
-/
namespace Go.Proofs.YtifekejcbhllpaaGreat
open Go.RowKit

/-! ### What is persisted -/
def linesOf (S : Nat → Bool) (l : Nat) : Bool := (List.range 8).any fun j => S (8 * l + j)
theorem linesOf_iff {S : Nat → Bool} {l : Nat} : linesOf S l = true ↔ ∃ i, S i = true ∧ i / 8 = l := by
  unfold linesOf
  rw [List.any_eq_true]
  constructor
  · rintro ⟨j, hj, hs⟩
    rw [List.mem_range] at hj
    exact ⟨8 * l + j, hs, by omega⟩
  · rintro ⟨i, hs, hl⟩
    refine ⟨i % 8, by rw [List.mem_range]; omega, ?_⟩
    rw [show 8 * l + i % 8 = i by omega]
    exact hs
def addS (S : Nat → Bool) (x : Nat) : Nat → Bool := fun i => S i || decide (i = x)
theorem linesOf_add (S : Nat → Bool) (x l : Nat) : linesOf (addS S x) l = (linesOf S l || decide (l = x / 8)) := by
  rw [Bool.eq_iff_iff, linesOf_iff, Bool.or_eq_true, linesOf_iff, decide_eq_true_eq]
  unfold addS
  constructor
  · rintro ⟨i, hs, hl⟩
    rw [Bool.or_eq_true, decide_eq_true_eq] at hs
    rcases hs with hs | rfl
    · exact .inl ⟨i, hs, hl⟩
    · exact .inr hl.symm
  · rintro (⟨i, hs, hl⟩ | rfl)
    · exact ⟨i, by simp [hs], hl⟩
    · exact ⟨x, by simp, rfl⟩
def inL (L : List Nat) (k : Nat) : Nat → Bool := fun i => decide (i ∈ L.take k)
theorem inL_zero (L : List Nat) : inL L 0 = fun _ => false := by funext i; simp [inL]
theorem inL_succ {L : List Nat} {k x : Nat} (h : L[k]? = some x) : inL L (k + 1) = addS (inL L k) x := by
  funext i
  unfold inL addS
  rw [List.take_add_one, h]
  simp
theorem inL_not {L : List Nat} {k x : Nat} (h : L[k]? = some x) (hn : L.Nodup) : inL L k x = false := by
  unfold inL
  rw [decide_eq_false_iff_not]
  intro hm
  obtain ⟨j, hj, e⟩ := List.mem_iff_getElem.1 hm
  rw [List.getElem_take] at e
  obtain ⟨hk, e2⟩ := List.getElem?_eq_some_iff.1 h
  have hjl : j < L.length := by rw [List.length_take] at hj; omega
  have hjk : j < k := by rw [List.length_take] at hj; omega
  have := (List.getElem_inj hn (h₀ := hjl) (h₁ := hk)).1 (e.trans e2.symm)
  omega
def perMed (D : DevS) (S : Nat → Bool) : Nat → Nat := fun i => if S i = true ∧ D.bad (i / 8) = false then ((D.buf (i : Int)).getD (0, false)).1 else D.med i
def perBuf (D : DevS) (S : Nat → Bool) : Int → Option (Nat × Bool) := fun z => if 0 ≤ z ∧ S z.toNat = true then none else D.buf z
def perS (D : DevS) (S : Nat → Bool) : DevS := { D with med := perMed D S, buf := perBuf D S }
def perWear (D : DevS) (T : Nat → Bool) : Nat → Int := fun l => if T l = true then D.wear l + 1 else D.wear l
def persistD (D : DevS) (S : Nat → Bool) : DevS := { D with med := perMed D S, buf := perBuf D S, wear := perWear D (linesOf S) }
def wornF (S : Nat → Bool) : Int → Option Unit := fun z => if 0 ≤ z ∧ linesOf S z.toNat = true then some () else none
theorem perMed_none (D : DevS) : perMed D (fun _ => false) = D.med := by funext i; simp [perMed]
theorem perBuf_none (D : DevS) : perBuf D (fun _ => false) = D.buf := by funext i; simp [perBuf]
theorem perS_none (D : DevS) : perS D (fun _ => false) = D := by unfold perS; rw [perMed_none, perBuf_none]
theorem wornF_none : wornF (fun _ => false) = fun _ => none := by
  funext z
  unfold wornF
  rw [if_neg]
  rintro ⟨_, h⟩
  obtain ⟨i, h, _⟩ := linesOf_iff.1 h
  cases h
theorem perMed_bad {D : DevS} {S : Nat → Bool} {x : Nat} (hb : D.bad (x / 8) = true) : perMed D (addS S x) = perMed D S := by
  funext i
  unfold perMed addS
  by_cases e : i = x
  · subst e; rw [if_neg (by simp [hb]), if_neg (by simp [hb])]
  · simp [e]
theorem perMed_good {D : DevS} {S : Nat → Bool} {x v : Nat} {f : Bool} (hb : D.bad (x / 8) = false) (hv : D.buf (x : Int) = some (v, f)) : perMed D (addS S x) = fun j => if j = x then v else perMed D S j := by
  funext i
  unfold perMed addS
  by_cases e : i = x
  · subst e; simp [hb, hv]
  · simp [e]
theorem perBuf_add (D : DevS) (S : Nat → Bool) (x : Nat) : perBuf D (addS S x) = updZ (perBuf D S) (x : Int) none := by
  funext z
  unfold perBuf addS updZ
  by_cases e : z = (x : Int)
  · subst e; simp
  · rw [if_neg e]
    by_cases h0 : 0 ≤ z
    · have : ¬ z.toNat = x := by omega
      simp [this]
    · simp [h0]
theorem perBuf_at {D : DevS} {S : Nat → Bool} {x : Nat} (h : S x = false) : perBuf D S (x : Int) = D.buf (x : Int) := by
  unfold perBuf
  rw [if_neg (by simp [h])]
theorem wornF_add (S : Nat → Bool) (x : Nat) : wornF (addS S x) = updZ (wornF S) ((x / 8 : Nat) : Int) (some ()) := by
  funext z
  unfold wornF updZ
  rw [linesOf_add]
  by_cases e : z = ((x / 8 : Nat) : Int)
  · rw [if_pos e, if_pos]
    have : z.toNat = x / 8 := by omega
    exact ⟨by omega, by simp [this]⟩
  · rw [if_neg e]
    by_cases h0 : 0 ≤ z
    · have : ¬ z.toNat = x / 8 := by omega
      simp [this]
    · simp [h0]

def unitVal (_ : Unit) : Value := .agg #[]
def unitR : Value → Option (DataW Unit × List MemPlace)
  | .agg cs => if cs.toList = [] then some (.agg [], []) else none
  | _ => none
theorem unitR_inv (v : Value) (y : DataW Unit × List MemPlace) (h : unitR v = some y) : ∃ a, v = unitVal a ∧ y = (.agg [], []) := by
  unfold unitR at h
  split at h
  · rename_i cs
    split at h
    · rename_i hl
      cases h
      refine ⟨(), ?_, rfl⟩
      unfold unitVal
      congr 1
      exact Array.ext' hl
    · cases h
  · cases h
noncomputable def unitE : EltLaw Tryz.prog 152 Unit where
  val := unitVal
  enc := fun _ => .agg []
  R := unitR
  R_mk := fun _ => rfl
  R_inv := unitR_inv
  enc_inj := fun _ _ _ => rfl
  zero := ()
  zero_run := fun _ => by kernel_rfl
theorem undSet : Tryz.prog.underlying 151 = some (.map 3 152) := Tryz.underlying151

/-! ### The first loop -/
structure Per1 (w wr : World) (a : DevA) (D : DevS) (L : List Nat) (bn k : Nat) : Prop where
  dev : DevIs wr a (perS D (inL L k))
  worn : MapZ unitE 3 wr bn k (wornF (inL L k))
  gr : Gr a.all w wr
  bn : w.heap.size ≤ bn
  fresh : ∀ b ∈ a.all, b < w.heap.size
theorem Per1.ne {w wr : World} {a : DevA} {D : DevS} {L : List Nat} {bn k : Nat} (h : Per1 w wr a D L bn k) : bn ∉ a.all := fun e => by have := h.fresh _ e; have := h.bn; omega
theorem perBuf_sup {a : DevA} {D : DevS} {S : Nat → Bool} {wr : World} (h : DevIs wr a (perS D S)) (x : Int) : (∀ z, updZ (perBuf D S) x none z ≠ none → 0 ≤ z ∧ z < 8 * D.n) ∧ ∀ z p, updZ (perBuf D S) x none z = some p → p.1 < 18446744073709551616 := by
  constructor
  · intro z hz
    unfold updZ at hz
    by_cases e : z = x
    · rw [if_pos e] at hz; exact absurd rfl hz
    · rw [if_neg e] at hz; exact h.ok.sup z hz
  · intro z p hz
    unfold updZ at hz
    by_cases e : z = x
    · rw [if_pos e] at hz; cases hz
    · rw [if_neg e] at hz; exact h.ok.bufB z p hz
/-- A round: the word's medium was written or not (state E at world w1), the word goes from the buffer, its line is noted. -/
theorem Per1.step {w wr w1 w2 w3 : World} {a : DevA} {D E : DevS} {L : List Nat} {bn k x : Nat} {y : Int} (Q : Per1 w wr a D L bn k) (hx : L[k]? = some x) (hE : { E with buf := updZ E.buf (x : Int) none } = perS D (inL L (k + 1))) (hB : E.buf = perBuf D (inL L k)) (hc : E.cnt = D.cnt)
    (d1 : DevIs w1 a E) (g1 : Gr [a.bm] wr w1) (m2 : MapZ cellE 3 w2 a.bb D.cnt (updZ (perBuf D (inL L k)) (x : Int) none)) (g2 : Gr [a.bb] w1 w2) (hy : y = ((x / 8 : Nat) : Int)) (m3 : MapZ unitE 3 w3 bn (k + 1) (updZ (wornF (inL L k)) y (some ()))) (g3 : Gr [bn] w2 w3) : Per1 w w3 a D L bn (k + 1) := by
  have sp := perBuf_sup Q.dev (x : Int)
  have hn : E.n = D.n := by have q := congrArg DevS.n hE; exact q
  refine ⟨?_, ?_, ?_, Q.bn, Q.fresh⟩
  · rw [← hE]
    have r := d1.setBuf (f := updZ E.buf (x : Int) none) (by rw [hB, hc]; exact m2) g2 (by rw [hB, hn]; exact sp.1) (by rw [hB]; exact sp.2)
    exact r.gr g3 (fun b hb e => by rw [List.mem_singleton] at e; subst e; exact Q.ne hb)
  · rw [inL_succ hx, wornF_add, ← hy]; exact m3
  · exact ((Q.gr.nextN g1 (fun b hb => by rw [List.mem_singleton] at hb; subst hb; exact .inl (by simp [DevA.all]))).nextN g2 (fun b hb => by rw [List.mem_singleton] at hb; subst hb; exact .inl (by simp [DevA.all]))).nextN g3 (fun b hb => by rw [List.mem_singleton] at hb; subst hb; exact .inr Q.bn)

/-! ### The second loop -/
structure Per2 (w wr : World) (a : DevA) (D : DevS) (S : Nat → Bool) (bn r m g : Nat) (left : Int → Bool) : Prop where
  dev : DevIs wr a { perS D S with wear := perWear D (fun l => linesOf S l && !left (l : Int)) }
  ran : RanZ unitE 3 wr bn r m (wornF S) left g
  gr : Gr a.all w wr
  bn : w.heap.size ≤ bn
  br : w.heap.size ≤ r
  fresh : ∀ b ∈ a.all, b < w.heap.size
theorem Per2.step {w wr w1 : World} {a : DevA} {D : DevS} {S : Nat → Bool} {bn r m g g' l : Nat} {left : Int → Bool} (Q : Per2 w wr a D S bn r m g left) (hl : left (l : Int) = true) (hS : linesOf S l = true) (g1 : Gr [r] wr w1) (R : RanZ unitE 3 w1 bn r m (wornF S) (fun y => left y && !decide (y = (l : Int))) g') :
    Per2 w (w1.setCell ⟨a.bw, l, none⟩ (.int .i64 (D.wear l + 1))) a D S bn r m g' (fun y => left y && !decide (y = (l : Int))) := by
  have nr : r ∉ a.all := fun e => by have := Q.fresh _ e; have := Q.br; omega
  have nb : bn ∉ a.all := fun e => by have := Q.fresh _ e; have := Q.bn; omega
  have hw : a.bw ∈ a.all := by simp [DevA.all]
  have d1 := Q.dev.gr g1 (fun b hb e => by rw [List.mem_singleton] at e; subst e; exact nr hb)
  have g2 := grSet w1 a.bw l (.int .i64 (D.wear l + 1))
  refine ⟨?_, R.gr g2 (fun e => by rw [List.mem_singleton] at e; subst e; exact nb hw) (fun e => by rw [List.mem_singleton] at e; subst e; exact nr hw), ?_, Q.bn, Q.br, Q.fresh⟩
  · have e : (fun j => if j = l then D.wear l + 1 else perWear D (fun l => linesOf S l && !left (l : Int)) j) = perWear D (fun j => linesOf S j && !(left (j : Int) && !decide ((j : Int) = (l : Int)))) := by
      funext j
      unfold perWear
      by_cases q : j = l
      · subst q; simp [hS]
      · have q2 : ¬ ((j : Int) = (l : Int)) := by omega
        simp [q, q2]
    have r := d1.setWear l (D.wear l + 1)
    exact cast (congrArg (fun f => DevIs (w1.setCell ⟨a.bw, l, none⟩ (.int .i64 (D.wear l + 1))) a { perS D S with wear := f }) e) r
  · exact (Q.gr.nextN g1 (fun b hb => by rw [List.mem_singleton] at hb; subst hb; exact .inr Q.br)).nextN g2 (fun b hb => by rw [List.mem_singleton] at hb; subst hb; exact .inl hw)

set_option maxRecDepth 20000 in
set_option maxHeartbeats 2000000 in
theorem persist_any (a : DevA) (D : DevS) (ao : Option Addr) (bl c : Nat) (L : List Nat) (W : World) (h : DevIs W a D) (hao : ∀ k, k < L.length → ao = some ⟨bl, 0, none⟩) (hL : ∀ k (x : Nat), L[k]? = some x → W.cell? ⟨bl, k, none⟩ = some (.int .i64 (x : Int)))
    (hbl : L ≠ [] → bl ∉ a.all ∧ bl < W.heap.size) (hnd : L.Nodup) (hin : ∀ x ∈ L, x < 8 * D.n ∧ D.buf (x : Int) ≠ none) (hm : L.length < 4611686018427387904) (hwear : ∀ l, 0 ≤ D.wear l ∧ D.wear l < 4611686018427387904) :
    Calls Tryz.prog 48 #[.pointer (some ⟨a.bd, 0, none⟩), .slice ao L.length c] W fun e W' => e = .returned (.tuple #[]) ∧ DevIs W' a (persistD D (inL L L.length)) ∧ Gr a.all W W' := by
  have H := Lib.hid h
  have HA := Lib.hid hao
  have HL := Lib.hid hL
  have HB := Lib.hid hbl
  have HN := Lib.hid hnd
  have HI := Lib.hid hin
  have HWE := Lib.hid hwear
  have hn := h.ok.hi
  clear h hao hL hbl hnd hin hwear
  obtain ⟨m, hm2⟩ : ∃ m, m = L.length := ⟨_, rfl⟩
  rw [← hm2] at hm ⊢
  have HM := Lib.hid hm2
  clear hm2
  have hmm := @run_makeMap Tryz.prog
  go_enter Tryz.func48, Tryz.ntmps48
  go_wp2_with fail
  have P1 : Per1 W (W.alloc (.map #[] 0)) a D L W.heap.size 0 := by
    have g := (Gr.refl [] W).alloc (.map #[] 0)
    refine ⟨?_, ?_, g.of0, Nat.le_refl _, H.out.lt⟩
    · rw [inL_zero, perS_none]; exact H.out.gr0 g
    · rw [inL_zero, wornF_none]; exact MapZ.made W
  generalize W.alloc (.map #[] 0) = wa at *
  obtain ⟨bn, hbn⟩ : ∃ bn, W.heap.size = bn := ⟨_, rfl⟩
  rw [hbn] at P1 ⊢
  clear hbn
  go_loopw [12] (fun z wr => ∃ k : Nat, k ≤ m ∧ z = .int .i64 (k : Int) ∧ Per1 W wr a D L bn k) (fun z _ => m - (intOf z).toNat)
  case atStart => exact ⟨0, by omega, rfl, P1⟩
  case round =>
    clear P1
    obtain ⟨k, hk, rfl, Q⟩ := hrel
    by_cases hlt : k < m
    · obtain ⟨x, hx⟩ : ∃ x, L[k]? = some x := ⟨L[k]'(by have := HM.out; omega), List.getElem?_eq_getElem _⟩
      have hxm : x ∈ L := List.mem_of_getElem? hx
      obtain ⟨hx8, hxb⟩ := HI.out x hxm
      have hao := HA.out k (by have := HM.out; omega)
      have hbb := HB.out (List.ne_nil_of_mem hxm)
      have e0 : wr.cell? ⟨bl, k, none⟩ = some (.int .i64 (x : Int)) := (World.cell?_of_block (w := W) (Q.gr.block bl hbb.2 hbb.1)).trans (HL.out k x hx)
      have c1 := Q.dev.c1
      have c3 := Q.dev.c3
      have c0 := Q.dev.c0
      have hb : wr.cell? ⟨a.bg, x / 8, none⟩ = some (.bool (D.bad (x / 8))) := Q.dev.badAt (show x / 8 < D.n by omega)
      have nS := inL_not hx HN.out
      obtain ⟨⟨v, f⟩, hv⟩ := Option.ne_none_iff_exists'.1 hxb
      have HZ := Lib.hid (show WfZ (x : Int) from wfZ (by omega) (by omega))
      have HZ8 := Lib.hid (show WfZ ((x : Int) / 8) from wfZ (by omega) (by omega))
      have HQ := Lib.hid (And.intro Q nS)
      have HX := Lib.hid (And.intro hx hv)
      have HK := Lib.hid (show (x : Int) / 8 = ((x / 8 : Nat) : Int) by omega)
      have hmed : wr.cell? ⟨a.bm, x, none⟩ = some (.int .u64 (perMed D (inL L k) x : Int)) := Q.dev.medAt (show x < 8 * D.n by omega)
      have hfz := Q.dev.med.frozen x
      have hlk : (Instr.lookup 108 (.map (some a.bb)) (.int .i64 (x : Int)) false).run Tryz.prog wr.drew = .ok (.agg #[.int .u64 (v : Int), .bool f]) wr.drew := by
        have r := (Q.dev.buf.gr0 (Gr.refl [] wr).drew).look (t := 108) undInt undMap HZ.out
        rw [show (perS D (inL L k)).buf = perBuf D (inL L k) from rfl, perBuf_at nS, hv] at r
        exact r
      have hfld : ∀ ww : World, (Instr.field 150 (.agg #[.int .u64 (v : Int), .bool f]) 0).run Tryz.prog ww = .ok (.int .u64 (v : Int)) ww := fun ww => by kernel_rfl
      clear Q nS hx hxb hxm hv hbb
      rw [show (perS D (inL L k)).n = D.n from rfl] at c0 c3
      obtain ⟨N, hN⟩ : ∃ N, N = D.n := ⟨_, rfl⟩
      rw [← hN] at c0 c3 hx8 hn
      have HNN := Lib.hid hN
      clear hN
      subst hao
      cases hbad : D.bad (x / 8) with
      | true =>
        rw [hbad] at hb
        have HBAD := Lib.hid hbad
        clear hbad hlk hmed hfz hfld
        go_wp2_with (first
          | (at_delete; refine wp_delZ rfl _ _ rfl rfl HQ.out.1.dev.buf undInt undMap (x : Int) rfl HZ.out ?_; intro w2 M2 G2 hs2; clear hs2)
          | (at_mapUpdate; refine wp_putZ rfl _ _ _ rfl rfl (HQ.out.1.worn.gr G2 (fun e => by rw [List.mem_singleton] at e; exact HQ.out.1.ne (by rw [e]; simp [DevA.all]))) (by unfold maxLen; omega) undInt undSet ((x : Int) / 8) rfl HZ8.out () rfl ?_; intro w3 M3 G3 hs3; clear hs3))
        have HF := Lib.hid (HQ.out.1.step (E := perS D (inL L k)) HX.out.1 (by unfold perS; rw [inL_succ HX.out.1, perMed_bad HBAD.out, perBuf_add]) rfl rfl HQ.out.1.dev (Gr.refl _ _) M2 G2 HK.out M3 G3)
        clear M2 G2 M3 G3
        go_roundw
        case rel => exact ⟨k + 1, by omega, by go_num, HF.out⟩
        case measure => simp [intOf]; omega
      | false =>
        rw [hbad] at hb
        have HBAD := Lib.hid hbad
        clear hbad
        have hvb : v < 18446744073709551616 := H.out.ok.bufB _ _ HX.out.2
        have HD1 := Lib.hid (And.intro (HQ.out.1.dev.gr0 (Gr.refl _ _).drew |>.setMed x v hvb) (((Gr.refl [a.bm] wr).drew).trans (grSet wr.drew a.bm x (.int .u64 (v : Int)))))
        have HVB := Lib.hid hvb
        clear hvb
        go_wp2_with fail
        have hxi : (x : Int) < 8 * (N : Int) := by omega
        have n1 : ¬ a.bd = a.bm := (nd5 H.out.nd).1
        have n2 : ¬ a.bm = a.bd := fun e => n1 e.symm
        go_still_tail 13, (by kernel_rfl)
        clear hxi
        go_wp2_with (first
          | (at_delete; refine wp_delZ rfl _ _ rfl rfl HD1.out.1.buf undInt undMap (x : Int) rfl HZ.out ?_; intro w2 M2 G2 hs2; clear hs2)
          | (at_mapUpdate; refine wp_putZ rfl _ _ _ rfl rfl ((HQ.out.1.worn.gr HD1.out.2 (fun e => by rw [List.mem_singleton] at e; exact HQ.out.1.ne (by rw [e]; simp [DevA.all]))).gr G2 (fun e => by rw [List.mem_singleton] at e; exact HQ.out.1.ne (by rw [e]; simp [DevA.all]))) (by unfold maxLen; omega) undInt undSet ((x : Int) / 8) rfl HZ8.out () rfl ?_; intro w3 M3 G3 hs3; clear hs3))
        clear n1 n2
        have HF := Lib.hid (HQ.out.1.step (E := { perS D (inL L k) with med := fun j => if j = x then v else (perS D (inL L k)).med j }) HX.out.1 (by unfold perS; rw [inL_succ HX.out.1, perMed_good HBAD.out HX.out.2, perBuf_add]) rfl rfl HD1.out.1 HD1.out.2 M2 G2 HK.out M3 G3)
        clear M2 G2 M3 G3
        go_roundw
        case rel => exact ⟨k + 1, by omega, by go_num, HF.out⟩
        case measure => simp [intOf]; omega
    · obtain rfl : k = m := by omega
      have HQ := Lib.hid Q
      clear Q
      go_wp2_with (at_range; refine wp_rangeZ rfl _ rfl rfl HQ.out.worn undInt undSet ?_; intro w2 cnt R2 G2 hs2; clear hs2)
      have P2 : Per2 W w2 a D (inL L k) bn wr.heap.size k cnt (fun z => (wornF (inL L k) z).isSome) := by
        refine ⟨?_, R2, HQ.out.gr.next0 G2, HQ.out.bn, HQ.out.gr.size, HQ.out.fresh⟩
        have e : perWear D (fun l => linesOf (inL L k) l && !(wornF (inL L k) (l : Int)).isSome) = D.wear := by
          funext l
          unfold perWear wornF
          cases hl : linesOf (inL L k) l <;> simp [hl]
        rw [e]
        exact HQ.out.dev.gr0 G2
      clear R2 G2
      generalize wr.heap.size = r at *
      go_frame
      go_loopg [8] cnt (fun g _ wr => ∃ left, Per2 W wr a D (inL L k) bn r k g left)
      case atStart => exact ⟨_, P2⟩
      case round =>
        clear P2
        obtain ⟨left, Q⟩ := hrel
        have HQ := Lib.hid Q
        clear Q
        go_wp2_with (at_next; refine wp_nextZ rfl _ rfl rfl HQ.out.ran undInt ?_ ?_)
        · intro hdone
          have HE := Lib.hid (show DevIs wr a (persistD D (inL L k)) by
            have e : perWear D (fun l => linesOf (inL L k) l && !left (l : Int)) = perWear D (linesOf (inL L k)) := by
              funext l
              unfold perWear
              cases hl : linesOf (inL L k) l with
              | false => simp [hl]
              | true =>
                obtain ⟨i, hi, hq⟩ := linesOf_iff.1 hl
                have := (HI.out i (List.mem_of_mem_take (of_decide_eq_true hi))).1
                have h2 := hdone (l : Int) (wfZ (by omega) (by omega))
                simp [hl, h2]
            have r := HQ.out.dev
            rw [e] at r
            exact r)
          clear hdone
          go_wp2_with fail
          go_returns
          exact ⟨rfl, HE.out, HQ.out.gr⟩
        · intro z c0 w1 cnt' hz hl hf R1 hlt G1 hs1 hen
          unfold wornF at hf
          by_cases hS : 0 ≤ z ∧ linesOf (inL L k) z.toNat = true
          · obtain ⟨l, rfl⟩ := Int.eq_ofNat_of_zero_le hS.1
            have hS2 : linesOf (inL L k) l = true := hS.2
            obtain ⟨i, hi, hq⟩ := linesOf_iff.1 hS2
            have hi8 := (HI.out i (List.mem_of_mem_take (of_decide_eq_true hi))).1
            have hln : l < D.n := by omega
            have nr : r ∉ a.all := fun e => by have := HQ.out.fresh _ e; have := HQ.out.br; omega
            have d1 := HQ.out.dev.gr G1 (fun b hb e => by rw [List.mem_singleton] at e; subst e; exact nr hb)
            have c2 := d1.c2
            have wc := d1.wearAt (i := l) hln
            have fw := d1.wear.frozen l
            have hval : perWear D (fun l => linesOf (inL L k) l && !left (l : Int)) l = D.wear l := by unfold perWear; rw [if_neg (by simp [hl])]
            rw [show (DevS.wear { perS D (inL L k) with wear := perWear D (fun l => linesOf (inL L k) l && !left (l : Int)) } l) = D.wear l from hval] at wc
            have wb := HWE.out l
            have HS := Lib.hid (HQ.out.step hl hS2 G1 R1)
            rw [show (DevS.n { perS D (inL L k) with wear := perWear D (fun l => linesOf (inL L k) l && !left (l : Int)) }) = D.n from rfl] at c2
            obtain ⟨N, hN⟩ : ∃ N, N = D.n := ⟨_, rfl⟩
            rw [← hN] at c2 hln hn
            obtain ⟨y, hy⟩ : ∃ y, D.wear l = y := ⟨_, rfl⟩
            rw [hy] at wc wb HS
            have HNN := Lib.hid (And.intro hN hy)
            have HLT := Lib.hid hlt
            clear hN hy hval hf hS hS2 hi hq hi8 nr d1 hl hz R1 G1 hs1 hlt
            go_wp2_with fail
            go_roundg cnt'
            case measure => exact HLT.out
            case rel => exact ⟨_, HS.out⟩
          · rw [if_neg hS] at hf; cases hf

end Go.Proofs.YtifekejcbhllpaaGreat
