/-
  Layer 9: Open, the state of its loop.
-/
import Derived.Test.YtjbhallhmnahbaaGreatPjBf
import Derived.Deep.RegionHeld3
import Derived.Deep.RegionLaw
import Derived.Deep.AppendLies

namespace Go.Proofs.YtjbhallhmnahbaaGreat
open Go.RowKit
set_option linter.unusedVariables false

theorem gr_grown9 {w w' : World} {row : Option Nat} (h : w.grownBy w' row) : Gr row.toList w w' := ⟨h.os, h.tape, h.output, h.size, fun i hi hn => h.block i hi (fun e => hn (by rw [← e]; simp))⟩
def ptrL (kbs : Nat → Nat) (k : Nat) : List Value := (List.range k).map fun q => .pointer (some ⟨kbs q, 0, none⟩)
def permL (C : CfgZ) (k : Nat) : List Value := (List.range k).flatMap fun q => (permRow C q).toList
def opRow (C : CfgZ) (vr vp : Value) : Array Value := #[.int .i64 C.r, .int .i64 C.l, .int .i64 C.s, .int .i64 C.psi, .int .u64 (C.key : Int), vr, vp]
theorem own_form9 {w : World} {base : Nat} {e : TypeId} {size n : Nat} {v : Value} {xs : List Value} (h : w.ownsRow base e size v n xs) : ∃ ao cap, v = .slice ao n cap := by
  rcases h.2 with ⟨hz, h0⟩ | ⟨g, cap, cur, hv, _⟩
  · exact ⟨none, 0, by rw [hz, h0]⟩
  · exact ⟨_, cap, hv⟩
theorem permL_len (C : CfgZ) (k : Nat) : (permL C k).length = k * 6 := by
  induction k with
  | zero => rfl
  | succ k ih =>
    unfold permL at ih ⊢
    rw [List.range_succ, List.flatMap_append, List.length_append, ih]
    simp [permRow]
    omega
theorem permL_snoc (C : CfgZ) (k : Nat) : permL C (k + 1) = permL C k ++ (permRow C k).toList := by
  unfold permL
  rw [List.range_succ, List.flatMap_append]
  simp
theorem ptrL_snoc (kbs : Nat → Nat) (k kb : Nat) : ptrL (updN kbs k kb) (k + 1) = ptrL kbs k ++ [.pointer (some ⟨kb, 0, none⟩)] := by
  unfold ptrL
  rw [List.range_succ, List.map_append]
  congr 1
  · refine List.map_congr_left fun q hq => ?_
    rw [updN_other _ _ (by have := List.mem_range.1 hq; omega)]
  · simp [updN_same]
theorem permL_get (C : CfgZ) {k q i : Nat} {v : Value} (hq : q < k) (hi : (permRow C q)[i]? = some v) : (permL C k)[q * 6 + i]? = some v := by
  have hi6 : i < 6 := by
    have := (Array.getElem?_eq_some_iff.1 hi).1
    simpa [permRow] using this
  induction k with
  | zero => omega
  | succ k ih =>
    rw [permL_snoc]
    by_cases c : q = k
    · subst c
      rw [List.getElem?_append_right (by rw [permL_len]; omega), permL_len, show q * 6 + i - q * 6 = i by omega, Array.getElem?_toList]
      exact hi
    · rw [List.getElem?_append_left (by rw [permL_len]; omega)]
      exact ih (by omega)
/-- kr regions, kp permutations are laid. -/
structure OpI (w0 : World) (fb : Nat) (a : DevA) (D : DevS) (C : CfgZ) (B : Nat → BkS) (j : Nat → Nat) (kr kp : Nat) (vr vp : Value) (kbs : Nat → Nat) (qs : Nat → BkA) (wr : World) : Prop where
  head : Holds wr fb (opRow C vr vp) 121
  regs : wr.ownsRow (fb + 1) 122 1 vr kr (ptrL kbs kr)
  perms : wr.ownsRow (fb + 1) 127 6 vp kp (permL C kp)
  rg : ∀ q, q < kr → RgIs wr (kbs q) (qs q) a (regC C q) (B q) 64 (j q) 0
  dj : ∀ q q2, q < kr → q2 < kr → q ≠ q2 → ∀ x ∈ kbs q :: (qs q).all, x ∉ kbs q2 :: (qs q2).all
  nr : ∀ q, q < kr → ∀ x ∈ kbs q :: (qs q).all, x ≠ fb ∧ vr.ownBlock ≠ some x ∧ vp.ownBlock ≠ some x ∧ w0.heap.size ≤ x
  rp : ∀ b, vr.ownBlock = some b → vp.ownBlock ≠ some b
  dev : DevIs wr a D
  gr : Gr [] w0 wr
  fl : w0.heap.size ≤ fb
  al : ∀ x ∈ a.all, x < w0.heap.size
section
variable {w0 w1 w2 w6 wr w' : World} {fb : Nat} {a : DevA} {D : DevS} {C : CfgZ} {B : Nat → BkS} {j : Nat → Nat} {kr kp : Nat} {vr vp : Value} {kbs : Nat → Nat} {qs : Nat → BkA} {kb g n cp : Nat} {q : BkA}
theorem OpI.gr0 (h : OpI w0 fb a D C B j kr kp vr vp kbs qs wr) (k : Gr [] wr w') : OpI w0 fb a D C B j kr kp vr vp kbs qs w' :=
  ⟨h.head.gr0 k, own_gr0 h.regs k, own_gr0 h.perms k, fun q hq => (h.rg q hq).gr0 k, h.dj, h.nr, h.rp, h.dev.gr0 k, h.gr.trans k, h.fl, h.al⟩
theorem OpI.rlt (h : OpI w0 fb a D C B j kr kp vr vp kbs qs wr) {q : Nat} (hq : q < kr) : ∀ x ∈ kbs q :: (qs q).all, x < wr.heap.size := fun x hx => by
  rcases List.mem_cons.1 hx with rfl | hx
  · exact (h.rg q hq).head.lt
  · exact (h.rg q hq).bk.lt _ hx
theorem OpI.mid (h : OpI w0 fb a D C B j kr kp vr vp kbs qs w1) (g1 : Gr [] w1 w2) {row : Option Nat} (hg : w2.grownBy w6 row) (o : Nat) (v : Value) : Gr (row.toList ++ [fb]) w1 (w6.setCell ⟨fb, o, none⟩ v) :=
  (((g1.of0 (cs := row.toList ++ [fb])).trans ((gr_grown9 hg).mono fun b hb => List.mem_append.2 (.inl hb)))).setCell (p := ⟨fb, o, none⟩) (.inl (by simp)) v
/-- One region more. -/
theorem OpI.snocR (h : OpI w0 fb a D C B j kr kp vr vp kbs qs w1) (hr : RgIs w1 kb q a (regC C kr) (B kr) 64 (j kr) 0)
    (hn : ∀ x ∈ kb :: q.all, x ≠ fb ∧ vr.ownBlock ≠ some x ∧ vp.ownBlock ≠ some x ∧ w0.heap.size ≤ x ∧ ∀ q2, q2 < kr → x ∉ kbs q2 :: (qs q2).all)
    (g1 : Gr [] w1 w2) (hown : w6.ownsRow (fb + 1) 122 1 (.slice (some ⟨g, 0, none⟩) (kr + 1) cp) (kr + 1) (ptrL kbs kr ++ [.pointer (some ⟨kb, 0, none⟩)]))
    (hg : w2.grownBy w6 vr.ownBlock) (hat : vr.ownBlock = some g ∨ g = w2.heap.size) :
    OpI w0 fb a D C B j (kr + 1) kp (.slice (some ⟨g, 0, none⟩) (kr + 1) cp) vp (updN kbs kr kb) (updN qs kr q) (w6.setCell ⟨fb, 5, none⟩ (.slice (some ⟨g, 0, none⟩) (kr + 1) cp)) := by
  have hG := h.mid g1 hg 5 (.slice (some ⟨g, 0, none⟩) (kr + 1) cp)
  have hs := g1.size
  have hrow : ∀ b ∈ vr.ownBlock.toList ++ [fb], vr.ownBlock = some b ∨ b = fb := fun b hb => by
    rcases List.mem_append.1 hb with hb | hb
    · exact .inl (by simpa using hb)
    · exact .inr (by simpa using hb)
  have hlr : ∀ b, vr.ownBlock = some b → fb + 1 ≤ b ∧ b < w1.heap.size := fun b e => h.regs.lt b e
  have hlp : ∀ b, vp.ownBlock = some b → fb + 1 ≤ b ∧ b < w1.heap.size := fun b e => h.perms.lt b e
  have hgn : ∀ x, x < w1.heap.size → vr.ownBlock ≠ some x → g ≠ x := fun x hx hv e => by
    rcases hat with c | c
    · exact hv (by rw [c, e])
    · omega
  have hob : (Value.slice (some ⟨g, 0, none⟩) (kr + 1) cp).ownBlock = some g := rfl
  have hkr : ∀ q2, q2 < kr + 1 → ∀ x ∈ updN kbs kr kb q2 :: (updN qs kr q q2).all, x ≠ fb ∧ vr.ownBlock ≠ some x ∧ vp.ownBlock ≠ some x ∧ w0.heap.size ≤ x ∧ x < w1.heap.size := fun q2 hq2 x hx => by
    by_cases c : q2 = kr
    · subst c
      rw [updN_same, updN_same] at hx
      obtain ⟨a1, a2, a3, a4, a5⟩ := hn x hx
      refine ⟨a1, a2, a3, a4, ?_⟩
      rcases List.mem_cons.1 hx with rfl | hx
      · exact hr.head.lt
      · exact hr.bk.lt _ hx
    · rw [updN_other _ _ c, updN_other _ _ c] at hx
      obtain ⟨a1, a2, a3, a4⟩ := h.nr q2 (by omega) x hx
      exact ⟨a1, a2, a3, a4, h.rlt (by omega) x hx⟩
  have hdev : ∀ b ∈ a.all, b ∉ vr.ownBlock.toList ++ [fb] := fun b hb hb2 => by
    have h1 := h.al b hb
    have h2 := h.fl
    rcases hrow b hb2 with c | c
    · have := (hlr b c).1; omega
    · omega
  refine ⟨?_, ?_, ?_, fun q2 hq2 => ?_, fun q1 q2 h1 h2 hne x hx => ?_, fun q2 hq2 x hx => ?_, fun b hb => ?_, ?_, ?_, h.fl, h.al⟩
  · have hd : Holds w6 fb (opRow C vr vp) 121 := (h.head.gr0 g1).gr (gr_grown9 hg) (fun e => by have := (hlr fb (by simpa using e)).1; omega)
    have := hd.set 5 (.slice (some ⟨g, 0, none⟩) (kr + 1) cp)
    exact this
  · rw [ptrL_snoc]
    exact own_gr hown ((Gr.refl [fb] w6).setCell (p := ⟨fb, 5, none⟩) (.inl (by simp)) _) (fun b hb e => by have := (hown.lt b hb).1; simp at e; omega)
  · exact own_gr h.perms hG (fun b hb e => by
      rcases hrow b e with c | c
      · exact h.rp b c hb
      · have := (hlp b hb).1; omega)
  · have key : ∀ x ∈ updN kbs kr kb q2 :: (updN qs kr q q2).all, x ∉ vr.ownBlock.toList ++ [fb] := fun x hx e => by
      obtain ⟨a1, a2, _⟩ := hkr q2 hq2 x hx
      rcases hrow x e with c | c
      · exact a2 c
      · exact a1 c
    have hbase : RgIs w1 (updN kbs kr kb q2) (updN qs kr q q2) a (regC C q2) (B q2) 64 (j q2) 0 := by
      by_cases c : q2 = kr
      · subst c
        rw [updN_same, updN_same]
        exact hr
      · rw [updN_other _ _ c, updN_other _ _ c]
        exact h.rg q2 (by omega)
    exact hbase.gr hG (key _ (by simp)) (fun b hb => key b (by simp [hb]))
  · by_cases c1 : q1 = kr
    · subst c1
      rw [updN_other _ _ (fun e => hne e.symm), updN_other _ _ (fun e => hne e.symm)]
      rw [updN_same, updN_same] at hx
      exact (hn x hx).2.2.2.2 q2 (by omega)
    · by_cases c2 : q2 = kr
      · subst c2
        rw [updN_same, updN_same]
        rw [updN_other _ _ hne, updN_other _ _ hne] at hx
        exact fun hx2 => (hn x hx2).2.2.2.2 q1 (by omega) hx
      · rw [updN_other _ _ c2, updN_other _ _ c2]
        rw [updN_other _ _ c1, updN_other _ _ c1] at hx
        exact h.dj q1 q2 (by omega) (by omega) hne x hx
  · obtain ⟨a1, a2, a3, a4, a5⟩ := hkr q2 hq2 x hx
    refine ⟨a1, ?_, a3, a4⟩
    rw [hob]
    intro e
    exact hgn x a5 a2 (by injection e)
  · rw [hob] at hb
    injection hb with hb
    subst hb
    rcases hat with c | c
    · exact h.rp g c
    · intro e
      have := (hlp g e).2
      omega
  · exact h.dev.gr hG hdev
  · refine h.gr.nextN hG fun x hx => .inr ?_
    have h2 := h.fl
    rcases hrow x hx with c | c
    · have := (hlr x c).1; omega
    · omega
/-- One permutation more. -/
theorem OpI.snocP (h : OpI w0 fb a D C B j kr kp vr vp kbs qs w1)
    (g1 : Gr [] w1 w2) (hown : w6.ownsRow (fb + 1) 127 6 (.slice (some ⟨g, 0, none⟩) (kp + 1) cp) (kp + 1) (permL C kp ++ (permRow C kp).toList))
    (hg : w2.grownBy w6 vp.ownBlock) (hat : vp.ownBlock = some g ∨ g = w2.heap.size) :
    OpI w0 fb a D C B j kr (kp + 1) vr (.slice (some ⟨g, 0, none⟩) (kp + 1) cp) kbs qs (w6.setCell ⟨fb, 6, none⟩ (.slice (some ⟨g, 0, none⟩) (kp + 1) cp)) := by
  have hG := h.mid g1 hg 6 (.slice (some ⟨g, 0, none⟩) (kp + 1) cp)
  have hs := g1.size
  have hrow : ∀ b ∈ vp.ownBlock.toList ++ [fb], vp.ownBlock = some b ∨ b = fb := fun b hb => by
    rcases List.mem_append.1 hb with hb | hb
    · exact .inl (by simpa using hb)
    · exact .inr (by simpa using hb)
  have hlr : ∀ b, vr.ownBlock = some b → fb + 1 ≤ b ∧ b < w1.heap.size := fun b e => h.regs.lt b e
  have hlp : ∀ b, vp.ownBlock = some b → fb + 1 ≤ b ∧ b < w1.heap.size := fun b e => h.perms.lt b e
  have hgn : ∀ x, x < w1.heap.size → vp.ownBlock ≠ some x → g ≠ x := fun x hx hv e => by
    rcases hat with c | c
    · exact hv (by rw [c, e])
    · omega
  have hob : (Value.slice (some ⟨g, 0, none⟩) (kp + 1) cp).ownBlock = some g := rfl
  have hdev : ∀ b ∈ a.all, b ∉ vp.ownBlock.toList ++ [fb] := fun b hb hb2 => by
    have h1 := h.al b hb
    have h2 := h.fl
    rcases hrow b hb2 with c | c
    · have := (hlp b c).1; omega
    · omega
  refine ⟨?_, ?_, ?_, fun q2 hq2 => ?_, h.dj, fun q2 hq2 x hx => ?_, fun b hb => ?_, ?_, ?_, h.fl, h.al⟩
  · have hd : Holds w6 fb (opRow C vr vp) 121 := (h.head.gr0 g1).gr (gr_grown9 hg) (fun e => by have := (hlp fb (by simpa using e)).1; omega)
    have := hd.set 6 (.slice (some ⟨g, 0, none⟩) (kp + 1) cp)
    exact this
  · exact own_gr h.regs hG (fun b hb e => by
      rcases hrow b e with c | c
      · exact h.rp b hb c
      · have := (hlr b hb).1; omega)
  · rw [permL_snoc]
    exact own_gr hown ((Gr.refl [fb] w6).setCell (p := ⟨fb, 6, none⟩) (.inl (by simp)) _) (fun b hb e => by have := (hown.lt b hb).1; simp at e; omega)
  · have key : ∀ x ∈ kbs q2 :: (qs q2).all, x ∉ vp.ownBlock.toList ++ [fb] := fun x hx e => by
      obtain ⟨a1, a2, a3, _⟩ := h.nr q2 hq2 x hx
      rcases hrow x e with c | c
      · exact a3 c
      · exact a1 c
    exact (h.rg q2 hq2).gr hG (key _ (by simp)) (fun b hb => key b (by simp [hb]))
  · obtain ⟨a1, a2, a3, a4⟩ := h.nr q2 hq2 x hx
    refine ⟨a1, a2, ?_, a4⟩
    rw [hob]
    intro e
    exact hgn x (h.rlt hq2 x hx) a3 (by injection e)
  · rw [hob]
    intro e
    injection e with e
    subst e
    rcases hat with c | c
    · exact h.rp g hb c
    · have := (hlr g hb).2
      omega
  · exact h.dev.gr hG hdev
  · refine h.gr.nextN hG fun x hx => .inr ?_
    have h2 := h.fl
    rcases hrow x hx with c | c
    · have := (hlp x c).1; omega
    · omega
/-- Behind the loop: a list. -/
theorem OpI.done (hC : OkC C) (h : OpI w0 fb a D C B j (cR C) (cR C) vr vp kbs qs wr) : ∃ A : FlA, A.fb = fb ∧ FlIs wr A a C B 64 j (fun _ => 0) ∧ ∀ x ∈ A.all (cR C), w0.heap.size ≤ x := by
  obtain ⟨n1, n2, n3, n4, _⟩ := hC.nums
  have hf := h.fl
  have hr := h.regs
  have hp := h.perms
  obtain ⟨R, hR⟩ : ∃ R, R = cR C := ⟨_, rfl⟩
  rw [← hR] at hr hp n3 n4
  rcases hr.2 with ⟨_, hz⟩ | ⟨gr, cr, curr, hvr, hgr, hhr, _, _, hsr, htr⟩
  · omega
  rcases hp.2 with ⟨_, hz⟩ | ⟨gp, cp, curp, hvp, hgp, hhp, _, _, hsp, htp⟩
  · omega
  have hor : vr.ownBlock = some gr := by rw [hvr]; rfl
  have hop : vp.ownBlock = some gp := by rw [hvp]; rfl
  have har : ∀ x ∈ a.all, x < fb := fun x hx => by have := h.al x hx; omega
  refine ⟨⟨fb, gr, gp, cr, cp, kbs, qs⟩, rfl, ⟨hC, ?_, fun q hq => ?_, fun q hq i v hi => ?_, h.rg, h.dj, fun q hq x hx => ?_, ?_⟩, fun x hx => ?_⟩
  · have := h.head
    rw [hvr, hvp, hR] at this
    exact this
  · have hc : wr.cell? ⟨gr, q, none⟩ = curr[q]? := (show Holds wr gr curr 122 from hhr).cell q
    have ht : (curr.toList.take (R * 1))[q]? = some (.pointer (some ⟨kbs q, 0, none⟩)) := by
      rw [htr]
      unfold ptrL
      rw [List.getElem?_map, List.getElem?_range (by omega)]
      rfl
    rw [List.getElem?_take, if_pos (by omega), Array.getElem?_toList] at ht
    exact hc.trans ht
  · have hc : wr.cell? ⟨gp, q * 6 + i, none⟩ = curp[q * 6 + i]? := (show Holds wr gp curp 127 from hhp).cell (q * 6 + i)
    have ht : (curp.toList.take (R * 6))[q * 6 + i]? = some v := by
      rw [htp]
      exact permL_get C (by omega) hi
    have hi6 : i < 6 := by
      have := (Array.getElem?_eq_some_iff.1 hi).1
      simpa [permRow] using this
    rw [List.getElem?_take, if_pos (by omega), Array.getElem?_toList] at ht
    exact hc.trans ht
  · obtain ⟨a1, a2, a3, a4⟩ := h.nr q hq x hx
    exact ⟨a1, fun e => a2 (by rw [hor, e]), fun e => a3 (by rw [hop, e])⟩
  · have q1 := (hr.lt gr hor).1
    have q2 := (hp.lt gp hop).1
    exact ⟨fun e => by have := har fb e; omega, fun e => by have := har gr e; omega, fun e => by have := har gp e; omega⟩
  · have q1 := (hr.lt gr hor).1
    have q2 := (hp.lt gp hop).1
    rcases FlA.cases hx with e | e | e | ⟨q, hq, hx⟩
    · have e' : x = fb := e
      omega
    · have e' : x = gr := e
      omega
    · have e' : x = gp := e
      omega
    · exact (h.nr q hq x hx).2.2.2
end
end Go.Proofs.YtjbhallhmnahbaaGreat
