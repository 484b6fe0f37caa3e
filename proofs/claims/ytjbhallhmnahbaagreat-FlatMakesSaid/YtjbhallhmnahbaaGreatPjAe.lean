/-
  pm.Flush.
-/
import Derived.Test.YtjbhallhmnahbaaGreatPjAd

namespace Go.Proofs.YtjbhallhmnahbaaGreat
open Go.RowKit

/-- The first j words of a line are flushed. -/
def flF (f : Int → Option (Nat × Bool)) (l j : Nat) : Int → Option (Nat × Bool) := fun z => if 8 * (l : Int) ≤ z ∧ z < 8 * l + j then (f z).map fun p => (p.1, true) else f z
theorem flF_zero (f : Int → Option (Nat × Bool)) (l : Nat) : flF f l 0 = f := by
  funext z
  unfold flF
  rw [if_neg (by omega)]
theorem flF_at (f : Int → Option (Nat × Bool)) (l j : Nat) : flF f l j ((8 * l + j : Nat) : Int) = f ((8 * l + j : Nat) : Int) := by
  unfold flF
  rw [if_neg (by omega)]
theorem flF_none (f : Int → Option (Nat × Bool)) (l j : Nat) (h : f ((8 * l + j : Nat) : Int) = none) : flF f l (j + 1) = flF f l j := by
  funext z
  unfold flF
  by_cases e : z = ((8 * l + j : Nat) : Int)
  · subst e
    rw [h]
    simp
  · by_cases c : 8 * (l : Int) ≤ z ∧ z < 8 * l + j
    · rw [if_pos c, if_pos (by omega)]
    · rw [if_neg c, if_neg (by omega)]
theorem flF_some (f : Int → Option (Nat × Bool)) (l j : Nat) {p : Nat × Bool} (h : f ((8 * l + j : Nat) : Int) = some p) : flF f l (j + 1) = updZ (flF f l j) ((8 * l + j : Nat) : Int) (some (p.1, true)) := by
  funext z
  unfold flF updZ
  by_cases e : z = ((8 * l + j : Nat) : Int)
  · subst e
    rw [if_pos rfl, if_pos (by omega), h]
    rfl
  · rw [if_neg e]
    simp only
    by_cases c : 8 * (l : Int) ≤ z ∧ z < 8 * l + j
    · rw [if_pos c, if_pos (by omega)]
    · rw [if_neg c, if_neg (by omega)]
set_option maxRecDepth 20000 in
set_option maxHeartbeats 2000000 in
theorem flush1 (a : DevA) (D : DevS) (p0 p1 l : Nat) (W : World) (h : DevIs W a D) (c0 : W.cell? ⟨p0, 0, none⟩ = some (.int .i64 (l : Int))) (c1 : W.cell? ⟨p1, 0, none⟩ = some (.pointer (some ⟨a.bd, 0, none⟩)))
    (hl : l < D.n) (hc : D.cnt < 4611686018427387904) (n0 : p0 ≠ a.bb) (n1 : p1 ≠ a.bb) :
    Calls Tryz.prog 181 #[.pointer (some ⟨p0, 0, none⟩), .pointer (some ⟨p1, 0, none⟩)] W fun e W' => e = .returned (.tuple #[]) ∧ Did a D (withBuf D (flF D.buf l 8)) W W' := by
  have H := Lib.hid h
  have hn := h.ok.hi
  have C0 := Lib.hid c0
  have C1 := Lib.hid c1
  have hb0 := block_lt_of_cell c0
  have hb1 := block_lt_of_cell c1
  simp only at hb0 hb1
  clear h c1
  go_enter Tryz.func181, Tryz.ntmps181
  go_wp2_with fail
  clear c0
  go_loopw [2] (fun z wr => ∃ j : Nat, j ≤ 8 ∧ z = .int .i64 ((8 * l + j : Nat) : Int) ∧ MapZ cellE 3 wr a.bb D.cnt (flF D.buf l j) ∧ Gr [a.bb] W wr) (fun z _ => 8 * l + 8 - (intOf z).toNat)
  case atStart => exact ⟨0, by omega, by go_num, by rw [flF_zero]; exact H.out.buf, Gr.refl _ _⟩
  case round =>
    obtain ⟨j, hj, rfl, M1, G1⟩ := hrel
    have e0 : wr.cell? ⟨p0, 0, none⟩ = some (.int .i64 (l : Int)) := (World.cell?_of_block (w := W) (G1.block p0 hb0 (by simpa using n0))).trans C0.out
    have e1 : wr.cell? ⟨p1, 0, none⟩ = some (.pointer (some ⟨a.bd, 0, none⟩)) := (World.cell?_of_block (w := W) (G1.block p1 hb1 (by simpa using n1))).trans C1.out
    have nd := nd5 H.out.nd
    have d1 : wr.cell? ⟨a.bd, 1, none⟩ = some (.map (some a.bb)) := (H.out.head.gr G1 (by simpa using nd.2.1)).cell 1
    have HND := Lib.hid nd
    clear nd
    by_cases hlt : j < 8
    · have hz : WfZ ((8 * l + j : Nat) : Int) := wfZ (by omega) (by omega)
      have HZ := Lib.hid hz
      have HM := Lib.hid (And.intro M1 G1)
      clear hz M1 G1
      obtain ⟨q, hq⟩ : ∃ q : Nat, q = 8 * l + j := ⟨_, rfl⟩
      rw [← hq] at HZ ⊢
      have hq2 : q < 8 * l + 8 := by omega
      have HQ := Lib.hid hq
      cases hb : D.buf (q : Int) with
      | some p =>
        obtain ⟨v, f⟩ := p
        have HV := Lib.hid (show Value.tuple #[cellE.val ((flF D.buf l j (q : Int)).getD cellE.zero), .bool (flF D.buf l j (q : Int)).isSome] = .tuple #[.agg #[.int .u64 (v : Int), .bool f], .bool true] by rw [hq, flF_at, ← hq, hb]; rfl)
        have HS := Lib.hid (flF_some D.buf l j (by rw [← hq]; exact hb))
        have HO := Lib.hid (show (flF D.buf l j (q : Int)).isSome = true by rw [hq, flF_at, ← hq, hb]; rfl)
        clear hb hq
        go_wp2_with (at_lookup; refine wp_lookZ_oks rfl _ _ rfl rfl HM.out.1 undInt undMap (q : Int) rfl HZ.out _ HV.out ?_)
        have X1 := Holds.new wr #[.int .u64 v, .bool f] 144
        have m1 : a.bd ≠ wr.heap.size := by have := block_lt_of_cell d1; simp only at this; omega
        have m2 : p1 ≠ wr.heap.size := by have := HM.out.2.size; omega
        have y1 : (wr.alloc (Obj.cells #[.int .u64 v, .bool f] 144)).cell? ⟨wr.heap.size, 0, none⟩ = some (.int .u64 v) := X1.cell 0
        have g1 := (Gr.refl [] wr).alloc (Obj.cells #[.int .u64 v, .bool f] 144)
        have e1b : (wr.alloc (Obj.cells #[.int .u64 v, .bool f] 144)).cell? ⟨p1, 0, none⟩ = some (.pointer (some ⟨a.bd, 0, none⟩)) := (g1.cell0 (by have := HM.out.2.size; omega)).trans e1
        have d1b : (wr.alloc (Obj.cells #[.int .u64 v, .bool f] 144)).cell? ⟨a.bd, 1, none⟩ = some (.map (some a.bb)) := (g1.cell0 (by have := block_lt_of_cell d1; simpa using this)).trans d1
        have HG := Lib.hid (And.intro (HM.out.1.gr0 g1.drew) (HM.out.2.next0 g1.drew))
        clear X1 g1 e0 e1 d1 m1 m2
        generalize wr.alloc (Obj.cells #[.int .u64 v, .bool f] 144) = wb at *
        generalize wr.heap.size = b3 at *
        go_still_tail 8, (by kernel_rfl)
        go_wp2_with (at_mapUpdate; refine wp_putZ_old rfl _ _ _ rfl rfl HG.out.1 (by unfold maxLen; omega) undInt undMap (q : Int) rfl HZ.out (v, true) rfl HO.out ?_; intro w3 M3 G3 hs3)
        have HF := Lib.hid (And.intro (show MapZ cellE 3 w3 a.bb D.cnt (flF D.buf l (j + 1)) by rw [HS.out, ← HQ.out]; exact M3) (HG.out.2.trans G3))
        clear M3 G3 hs3 HG HM
        go_wp2
        go_roundw
        case rel => exact ⟨j + 1, by omega, by have := HQ.out; go_num, HF.out.1, HF.out.2⟩
        case measure => simp [intOf]; omega
      | none =>
        have HV := Lib.hid (show Value.tuple #[cellE.val ((flF D.buf l j (q : Int)).getD cellE.zero), .bool (flF D.buf l j (q : Int)).isSome] = .tuple #[.agg #[.int .u64 0, .bool false], .bool false] by rw [hq, flF_at, ← hq, hb]; rfl)
        have HS := Lib.hid (flF_none D.buf l j (by rw [← hq]; exact hb))
        clear hb hq
        go_wp2_with (at_lookup; refine wp_lookZ_oks rfl _ _ rfl rfl HM.out.1 undInt undMap (q : Int) rfl HZ.out _ HV.out ?_)
        have g1 := (Gr.refl [] wr).alloc (Obj.cells #[.int .u64 0, .bool false] 144)
        have HF := Lib.hid (And.intro (show MapZ cellE 3 (wr.alloc (Obj.cells #[.int .u64 0, .bool false] 144)) a.bb D.cnt (flF D.buf l (j + 1)) by rw [HS.out]; exact HM.out.1.gr0 g1) (HM.out.2.next0 g1))
        clear g1 HM
        go_roundw
        case rel => exact ⟨j + 1, by omega, by have := HQ.out; go_num, HF.out.1, HF.out.2⟩
        case measure => simp [intOf]; omega
    · obtain rfl : j = 8 := by omega
      have HD := Lib.hid (Did.ofBuf (W' := wr) (f := flF D.buf l 8) H.out (M1.mono (by omega)) G1 (by
        intro z hz
        unfold flF at hz
        by_cases c : 8 * (l : Int) ≤ z ∧ z < 8 * l + ((8 : Nat) : Int)
        · omega
        · rw [if_neg c] at hz
          exact H.out.ok.sup z hz) (by
        intro z p hz
        unfold flF at hz
        by_cases c : 8 * (l : Int) ≤ z ∧ z < 8 * l + ((8 : Nat) : Int)
        · rw [if_pos c] at hz
          cases hq : D.buf z with
          | none => rw [hq] at hz; cases hz
          | some r => rw [hq] at hz; cases hz; exact H.out.ok.bufB z r hq
        · rw [if_neg c] at hz
          exact H.out.ok.bufB z p hz))
      clear M1 G1
      go_wp2_with fail
      go_returns
      exact ⟨rfl, HD.out⟩

def flushF (z : Int) (D : DevS) : DevS := withBuf D (flF D.buf z.toNat 8)
def isLine (D : DevS) (z : Int) : Bool := decide (0 ≤ z ∧ z < D.n)
set_option maxRecDepth 20000 in
set_option maxHeartbeats 1000000 in
theorem flush_any (a : DevA) (D : DevS) (z : Int) (w : World) (h : DevIs w a D) (hc : D.cnt < 4611686018427387904) :
    Calls Tryz.prog 143 #[.pointer (some ⟨a.bd, 0, none⟩), .int .i64 z] w fun e w' => e = .returned (.int .i64 (opE D (isLine D z))) ∧ DevIs w' a (opD D (isLine D z) (flushF z)) ∧ Gr a.all w w' := by
  go_enter Tryz.func143, Tryz.ntmps143
  go_wp2_with fail
  have X0 := (Holds.new w #[.pointer (some ⟨a.bd, 0, none⟩)] 29).alloc (Obj.cells #[.int .i64 z] 3)
  have X1 := Holds.new (w.alloc (Obj.cells #[.pointer (some ⟨a.bd, 0, none⟩)] 29)) #[.int .i64 z] 3
  rw [World.size_alloc] at X1
  have HG := Lib.hid (((Gr.refl [] w).alloc (Obj.cells #[.pointer (some ⟨a.bd, 0, none⟩)] 29)).alloc (Obj.cells #[.int .i64 z] 3))
  generalize hwa : (w.alloc (Obj.cells #[.pointer (some ⟨a.bd, 0, none⟩)] 29)).alloc (Obj.cells #[.int .i64 z] 3) = wa at *
  have k0 : wa.cell? ⟨w.heap.size, 0, none⟩ = some (.pointer (some ⟨a.bd, 0, none⟩)) := X0.cell 0
  have k1 : wa.cell? ⟨w.heap.size + 1, 0, none⟩ = some (.int .i64 z) := X1.cell 0
  clear hwa
  have HT := Lib.hid (h.gr0 HG.out.drew)
  have HW := Lib.hid (hasLine_any a D _ HT.out z)
  obtain ⟨t, ht⟩ : ∃ t, isLine D z = t := ⟨_, rfl⟩
  rw [show decide (0 ≤ z ∧ z < D.n) = t from ht] at HW
  have HTT := Lib.hid ht
  clear ht
  by_cases he : reachE D t = 0
  · by_cases hf : D.fuse = 1
    · have HE := Lib.hid (And.intro (opE_fuse he hf) (fun f => opD_fuse (f := f) he hf))
      have HO := Lib.hid (fun g W (q : DevIs W a D) => operate_fuse a D t g W q he hf)
      clear he hf X0 X1 h
      go_still_tail 5, (by kernel_rfl)
      still_call (HW.out.mono fun _ _ q => ⟨q.1, q.2.symm⟩)
      repeat still_step
      refine wpStill_nil ?_
      go_wp2_with fail
      refine (HO.out _ _ HT.out).mono ?_
      rintro e w' ⟨rfl, d2, g2⟩
      have HR := Lib.hid (And.intro d2 ((HG.out.drew.of0.trans (g2.mono (cs := a.all) (fun b hb => by simp at hb; subst hb; simp [DevA.all])))))
      clear d2 g2
      go_wp2_with fail
      go_ret
      exact ⟨by rw [HTT.out, HE.out.1]; rfl, by rw [HTT.out, HE.out.2]; exact HR.out.1, HR.out.2⟩
    · obtain ⟨rfl, hoff⟩ := reach_there he
      have HE := Lib.hid (And.intro (opE_ok he hf) (fun f => opD_ok (f := f) he hf))
      have hz := of_decide_eq_true (show decide (0 ≤ z ∧ z < D.n) = true from HTT.out)
      obtain ⟨l, rfl⟩ := Int.eq_ofNat_of_zero_le hz.1
      have hlt := h.lt
      have na : ∀ k, w.heap.size ≤ k → k ∉ a.all := fun k hk hm => by have := hlt k hm; omega
      have nb : ∀ k, w.heap.size ≤ k → k ≠ a.bb := fun k hk e => na k hk (by rw [e]; simp [DevA.all])
      have HO := Lib.hid (operate_flush a D (flushF (l : Int) (lit D)) (w.heap.size + 1) w.heap.size wa.drew HT.out he hf hc (fun W g d => by
        have e0 := (X0.drew.gr g (na _ (by omega))).cell 0
        have e1 := (X1.drew.gr g (na _ (by omega))).cell 0
        exact flush1 a (lit D) (w.heap.size + 1) w.heap.size l W d e1 e0 (by have := hz.2; show l < D.n; omega) hc (nb _ (by omega)) (nb _ (by omega))))
      clear he hf X0 X1 h hoff hz hlt na nb
      go_still_tail 5, (by kernel_rfl)
      still_call (HW.out.mono fun _ _ q => ⟨q.1, q.2.symm⟩)
      repeat still_step
      refine wpStill_nil ?_
      go_wp2_with fail
      refine HO.out.mono ?_
      rintro e w' ⟨rfl, d2, g2⟩
      have HR := Lib.hid (And.intro d2 (HG.out.drew.of0.trans g2))
      clear d2 g2
      go_wp2_with fail
      go_ret
      exact ⟨by rw [HTT.out, HE.out.1]; rfl, by rw [HTT.out, HE.out.2]; exact HR.out.1, HR.out.2⟩
  · have HE := Lib.hid (And.intro (opE_err he) (fun f => opD_err (f := f) he))
    have HO := Lib.hid (fun g => operate_err a D t g _ HT.out he)
    clear he X0 X1 h
    go_still_tail 5, (by kernel_rfl)
    still_call (HW.out.mono fun _ _ q => ⟨q.1, q.2.symm⟩)
    repeat still_step
    refine wpStill_nil ?_
    go_wp2_with fail
    refine (HO.out _).mono ?_
    rintro e w' ⟨rfl, rfl⟩
    go_wp2_with fail
    go_ret
    exact ⟨by rw [HTT.out, HE.out.1]; rfl, by rw [HTT.out, HE.out.2]; exact HT.out, HG.out.drew.of0⟩

end Go.Proofs.YtjbhallhmnahbaaGreat
