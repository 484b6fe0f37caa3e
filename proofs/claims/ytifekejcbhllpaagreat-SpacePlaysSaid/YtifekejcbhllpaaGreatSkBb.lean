/-
  SkBb: FlS, FlT.
-/
import Derived.Test.YtifekejcbhllpaaGreatSkBa
import Derived.Deep.RegionHeld3
import Derived.Deep.RegionLaw
import Derived.Deep.AppendLies

set_option linter.unusedVariables false

/-
  Layer 9: WriteWord, and the rest of what is asked of a list, or of none.
-/
namespace Go.Proofs.YtifekejcbhllpaaGreat
open Go.RowKit
set_option linter.unusedVariables false

section
variable {w w' : World} {A : FlA} {a : DevA} {C : CfgZ} {B : Nat → BkS} {m : Nat} {j c : Nat → Nat} {D : DevS} {cc : Nat}
theorem fww_in (l k v : Nat) (h : FlIs w A a C B m j c) (hl : l < cR C * cL C) (hd : DevIs w a D) (hb : Bd D cc) (hcc : cc < 500000000) (hm : m < 70000000) (hk : k < 8) (hv : v < 18446744073709551616) (hj : j (qL C l) < 4294967295) (hn : sizeC C ≤ (D.n : Int))
    (hn1 : (regC C (qL C l)).psi ≤ (c (qL C l) : Int) → (readR D (bankR (regC C (qL C l))) (B (qL C l)) (fromI (regC C (qL C l)) (j (qL C l)))).2 = 0 ∧ (writeS (bankR (regC C (qL C l))) (toI (regC C (qL C l)) (j (qL C l))) (readR D (bankR (regC C (qL C l))) (B (qL C l)) (fromI (regC C (qL C l)) (j (qL C l)))).1 D (B (qL C l))).2.1.n = D.n ∧ (movZ (regC C (qL C l)) D (B (qL C l)) (j (qL C l))).2.1.n = D.n) :
    Calls Tryz.prog 67 #[.pointer (some ⟨A.fb, 0, none⟩), .int .i64 (l : Int), .int .i64 (k : Int), .int .u64 (v : Int)] w (FlPost w A a C B m j c cc (qL C l) (regZ (regC C (qL C l)) (iL C l) (fun z => writeWordS (bankR (regC C (qL C l))) z (k : Int) v) D (B (qL C l)) (j (qL C l)) (c (qL C l)))) := by
  have HF := Lib.hid (ffind_in l h hl)
  obtain ⟨hq, hi⟩ := qi_in h.ok hl
  obtain ⟨r1, r2, r3, r4, r5, r6, r7, r8⟩ := h.ok.reg hq
  have HW := Lib.hid (fun W (g : Gr [] w W) => rgww_any (iL C l) k v ((h.gr0 g).rg (qL C l) hq) (hd.gr0 g) hb hcc hm (by rw [r4]; exact hi) hk hv hj (by rw [r2]; show (regC C (qL C l)).a + regS C ≤ _; omega) hn1)
  obtain ⟨X, hX⟩ : ∃ X, X = regZ (regC C (qL C l)) (iL C l) (fun z => writeWordS (bankR (regC C (qL C l))) z (k : Int) v) D (B (qL C l)) (j (qL C l)) (c (qL C l)) := ⟨_, rfl⟩
  rw [← hX] at HW ⊢
  have HFin := Lib.hid (fun (W W' : World) (g : Gr [] w W) (g' : Gr (A.kb (qL C l) :: ((A.q (qL C l)).all ++ a.all)) W W') (k : RgIs W' (A.kb (qL C l)) (A.q (qL C l)) a (regC C (qL C l)) X.2.2.1 (m + 192) X.2.2.2.1 X.2.2.2.2) => And.intro ((h.gr0 g).upd hq g' k (by omega)) (show Gr (A.all (cR C) ++ a.all) w W' from (g.of0).trans (g'.mono fun x hx => by
    rcases List.mem_cons.1 hx with rfl | hx
    · exact List.mem_append.2 (.inl (FlA.mem hq (by simp [FlA.reg])))
    · rcases List.mem_append.1 hx with hx | hx
      · exact List.mem_append.2 (.inl (FlA.mem hq (by simp [FlA.reg, hx])))
      · exact List.mem_append.2 (.inr hx))))
  have HFind := Lib.hid (show Calls Tryz.prog 44 #[.pointer (some ⟨A.fb, 0, none⟩), .int .i64 (l : Int)] w (fun e w' => e = .returned (.tuple #[.pointer (some ⟨A.kb (qL C l), 0, none⟩), .int .i64 ((iL C l : Nat) : Int), .int .i64 0]) ∧ Gr [] w w') from HF.out)
  have hk0 : ¬ ((k : Int) < 0) := by omega
  have hk8 : ¬ ((8 : Int) ≤ (k : Int)) := by omega
  unfold FlPost
  unfold RgPost at HW
  clear h hl hX hq hi r1 r2 r3 r4 r5 r6 r7 r8 hd hn hn1 hj hv HF hb
  generalize A.kb (qL C l) = kb at *
  generalize iL C l = t at *
  go_enter Tryz.func67, Tryz.ntmps67
  go_wp2_with fail
  with_reducible refine HFind.out.mono ?_
  rintro e w2 ⟨rfl, g2⟩
  have HG := Lib.hid g2
  clear g2
  go_wp2_with fail
  with_reducible refine (HW.out _ HG.out).mono ?_
  rintro e w3 ⟨rfl, d3, b3, k3, g3⟩
  have H3 := Lib.hid (And.intro d3 (And.intro b3 (HFin.out _ _ HG.out g3 k3)))
  clear d3 b3 k3 g3
  go_wp2_with fail
  go_ret
  exact ⟨rfl, H3.out.1, H3.out.2.1, H3.out.2.2.1, H3.out.2.2.2⟩
theorem fregp_in (q : Nat) (h : FlIs w A a C B m j c) (hq : q < cR C) : Calls Tryz.prog 174 #[.pointer (some ⟨A.fb, 0, none⟩), .int .i64 (q : Int)] w fun e w' => e = .returned (.pointer (some ⟨A.kb q, 0, none⟩)) ∧ w' = w := by
  have c5 := h.c5
  have r0 := h.regs q hq
  have hqr : cR C ≤ 16 := by have := h.ok.nums; omega
  obtain ⟨R, hR⟩ : ∃ R, R = cR C := ⟨_, rfl⟩
  rw [← hR] at c5 hq hqr
  have hqn : ¬ ((q : Int) < 0) := by omega
  have hqi : (q : Int) < (R : Int) := by omega
  have hqi2 : ¬ ((R : Int) ≤ (q : Int)) := by omega
  have hqb : decide (R ≤ q) = false := by simpa using hq
  generalize A.kb q = kb at *
  clear h hR
  go_enter Tryz.func174, Tryz.ntmps174
  go_wp2_with fail
  go_ret
  exact ⟨rfl, rfl⟩
theorem fld_m9 (s g m : Int) (W : World) : (Instr.field 142 (.agg #[.int .i64 s, .int .i64 g, .int .u32 m]) 2).run Tryz.prog W = .ok (.int .u32 m) W := by kernel_rfl
theorem fmoves_in (q : Nat) (h : FlIs w A a C B m j c) (hq : q < cR C) : Calls Tryz.prog 154 #[.pointer (some ⟨A.fb, 0, none⟩), .int .i64 (q : Int)] w fun e w' => e = .returned (.int .u32 (j q : Int)) ∧ Gr [] w w' := by
  have HF := Lib.hid (fregp_in q h hq)
  have HL := Lib.hid (rstate_any (h.rg q hq))
  unfold stJ at HL
  generalize sAt (regC C q).l (j q) = sj at *
  generalize gAt (regC C q).l (j q) = gj at *
  have hf0 := fld_m9 sj gj ((j q : Nat) : Int)
  clear h
  go_enter Tryz.func154, Tryz.ntmps154
  go_wp2_with fail
  with_reducible refine HF.out.mono ?_
  rintro e w2 ⟨rfl, rfl⟩
  go_wp2_with fail
  with_reducible refine HL.out.mono ?_
  rintro e w3 ⟨rfl, g3⟩
  have HG := Lib.hid g3
  clear g3
  go_wp2_with fail
  go_ret
  exact ⟨rfl, HG.out⟩
set_option maxRecDepth 100000 in
set_option maxHeartbeats 4000000 in
theorem fconfig_in (h : FlIs w A a C B m j c) : Calls Tryz.prog 68 #[.pointer (some ⟨A.fb, 0, none⟩)] w fun e w' => e = .returned (cfgV C) ∧ Gr [] w w' := by
  have hh := h.head.alloc (Obj.cells #[.int .i64 0, .int .i64 0, .int .i64 0, .int .i64 0, .int .u64 0] 64)
  have hn := Holds.new w #[.int .i64 0, .int .i64 0, .int .i64 0, .int .i64 0, .int .u64 0] 64
  have ga := (Gr.refl [] w).alloc (Obj.cells #[.int .i64 0, .int .i64 0, .int .i64 0, .int .i64 0, .int .u64 0] 64)
  have H := Lib.hid (And.intro hh (And.intro hn ga))
  unfold cfgV
  clear h hh hn ga
  go_enter Tryz.func68, Tryz.ntmps68
  go_upto_region 3 with fail
  generalize w.alloc (Obj.cells #[.int .i64 0, .int .i64 0, .int .i64 0, .int .i64 0, .int .u64 0] 64) = w1 at *
  obtain ⟨rb, hrb⟩ : ∃ rb, w.heap.size = rb := ⟨_, rfl⟩
  have HW := Lib.hid (show w.heap.size ≤ rb by omega)
  rw [hrb] at H ⊢
  clear hrb
  have c0 : w1.cell? ⟨A.fb, 0, none⟩ = some (.int .i64 C.r) := H.out.1.cell 0
  have c1 : w1.cell? ⟨A.fb, 1, none⟩ = some (.int .i64 C.l) := H.out.1.cell 1
  have c2 : w1.cell? ⟨A.fb, 2, none⟩ = some (.int .i64 C.s) := H.out.1.cell 2
  have c3 : w1.cell? ⟨A.fb, 3, none⟩ = some (.int .i64 C.psi) := H.out.1.cell 3
  have c4 : w1.cell? ⟨A.fb, 4, none⟩ = some (.int .u64 (C.key : Int)) := H.out.1.cell 4
  have r0 : w1.cell? ⟨rb, 0, none⟩ = some (.int .i64 0) := H.out.2.1.cell 0
  have r1 : w1.cell? ⟨rb, 1, none⟩ = some (.int .i64 0) := H.out.2.1.cell 1
  have r2 : w1.cell? ⟨rb, 2, none⟩ = some (.int .i64 0) := H.out.2.1.cell 2
  have r3 : w1.cell? ⟨rb, 3, none⟩ = some (.int .i64 0) := H.out.2.1.cell 3
  have r4 : w1.cell? ⟨rb, 4, none⟩ = some (.int .u64 0) := H.out.2.1.cell 4
  have f0 := H.out.2.1.frozen 0
  have f1 := H.out.2.1.frozen 1
  have f2 := H.out.2.1.frozen 2
  have f3 := H.out.2.1.frozen 3
  have f4 := H.out.2.1.frozen 4
  have HF := Lib.hid (((((H.out.2.2.setCell (p := ⟨rb, 0, none⟩) (.inr HW.out) (.int .i64 C.r)).setCell (p := ⟨rb, 1, none⟩) (.inr HW.out) (.int .i64 C.l)).setCell (p := ⟨rb, 2, none⟩) (.inr HW.out) (.int .i64 C.s)).setCell (p := ⟨rb, 3, none⟩) (.inr HW.out) (.int .i64 C.psi)).setCell (p := ⟨rb, 4, none⟩) (.inr HW.out) (.int .u64 (C.key : Int)))
  go_wp2_with fail
  exact bodyPost_ret (v := .agg #[.int .i64 C.r, .int .i64 C.l, .int .i64 C.s, .int .i64 C.psi, .int .u64 (C.key : Int)]) (by simp [results, Tryz.results68, go_sem, *]) rfl ⟨rfl, HF.out⟩
end
end Go.Proofs.YtifekejcbhllpaaGreat

/-
  Layer 9: Open, the state of its loop.
-/
namespace Go.Proofs.YtifekejcbhllpaaGreat
open Go.RowKit
set_option linter.unusedVariables false

theorem gr_grown9 {w w' : World} {row : Option Nat} (h : w.grownBy w' row) : Gr row.toList w w' := ⟨h.os, h.tape, h.output, h.size, fun i hi hn => h.block i hi (fun e => hn (by rw [← e]; simp))⟩
def ptrL (kbs : Nat → Nat) (k : Nat) : List Value := (List.range k).map fun q => .pointer (some ⟨kbs q, 0, none⟩)
def permL (C : CfgZ) (k : Nat) : List Value := (List.range k).flatMap fun q => (permRow C q).toList
def opRow (C : CfgZ) (vr vp : Value) : Array Value := #[.int .i64 C.r, .int .i64 C.l, .int .i64 C.s, .int .i64 C.psi, .int .u64 (C.key : Int), vr, vp]
theorem own_form9 {w : World} {base : Nat} {e : TypeId} {size n : Nat} {v : Value} {xs : List Value} (h : w.ownsRow base e size v n xs) : ∃ ao cap, v = .slice ao n cap := by
  rcases h.2 with ⟨hz, h0⟩ | ⟨g, cap, cur, hv, _⟩
  · exact ⟨none, 0, by rw [hz, h0]⟩
  · exact ⟨_, cap, hv⟩
theorem permL_len (C : CfgZ) (k : Nat) : (permL C k).length = k * 6 := by
  induction k with
  | zero => rfl
  | succ k ih =>
    unfold permL at ih ⊢
    rw [List.range_succ, List.flatMap_append, List.length_append, ih]
    simp [permRow]
    omega
theorem permL_snoc (C : CfgZ) (k : Nat) : permL C (k + 1) = permL C k ++ (permRow C k).toList := by
  unfold permL
  rw [List.range_succ, List.flatMap_append]
  simp
theorem ptrL_snoc (kbs : Nat → Nat) (k kb : Nat) : ptrL (updN kbs k kb) (k + 1) = ptrL kbs k ++ [.pointer (some ⟨kb, 0, none⟩)] := by
  unfold ptrL
  rw [List.range_succ, List.map_append]
  congr 1
  · refine List.map_congr_left fun q hq => ?_
    rw [updN_other _ _ (by have := List.mem_range.1 hq; omega)]
  · simp [updN_same]
theorem permL_get (C : CfgZ) {k q i : Nat} {v : Value} (hq : q < k) (hi : (permRow C q)[i]? = some v) : (permL C k)[q * 6 + i]? = some v := by
  have hi6 : i < 6 := by
    have := (Array.getElem?_eq_some_iff.1 hi).1
    simpa [permRow] using this
  induction k with
  | zero => omega
  | succ k ih =>
    rw [permL_snoc]
    by_cases c : q = k
    · subst c
      rw [List.getElem?_append_right (by rw [permL_len]; omega), permL_len, show q * 6 + i - q * 6 = i by omega, Array.getElem?_toList]
      exact hi
    · rw [List.getElem?_append_left (by rw [permL_len]; omega)]
      exact ih (by omega)
/-- kr regions, kp permutations are laid. -/
structure OpI (w0 : World) (fb : Nat) (a : DevA) (D : DevS) (C : CfgZ) (B : Nat → BkS) (j : Nat → Nat) (kr kp : Nat) (vr vp : Value) (kbs : Nat → Nat) (qs : Nat → BkA) (wr : World) : Prop where
  head : Holds wr fb (opRow C vr vp) 136
  regs : wr.ownsRow (fb + 1) 104 1 vr kr (ptrL kbs kr)
  perms : wr.ownsRow (fb + 1) 139 6 vp kp (permL C kp)
  rg : ∀ q, q < kr → RgIs wr (kbs q) (qs q) a (regC C q) (B q) 64 (j q) 0
  dj : ∀ q q2, q < kr → q2 < kr → q ≠ q2 → ∀ x ∈ kbs q :: (qs q).all, x ∉ kbs q2 :: (qs q2).all
  nr : ∀ q, q < kr → ∀ x ∈ kbs q :: (qs q).all, x ≠ fb ∧ vr.ownBlock ≠ some x ∧ vp.ownBlock ≠ some x ∧ w0.heap.size ≤ x
  rp : ∀ b, vr.ownBlock = some b → vp.ownBlock ≠ some b
  dev : DevIs wr a D
  gr : Gr [] w0 wr
  fl : w0.heap.size ≤ fb
  al : ∀ x ∈ a.all, x < w0.heap.size
section
variable {w0 w1 w2 w6 wr w' : World} {fb : Nat} {a : DevA} {D : DevS} {C : CfgZ} {B : Nat → BkS} {j : Nat → Nat} {kr kp : Nat} {vr vp : Value} {kbs : Nat → Nat} {qs : Nat → BkA} {kb g n cp : Nat} {q : BkA}
theorem OpI.gr0 (h : OpI w0 fb a D C B j kr kp vr vp kbs qs wr) (k : Gr [] wr w') : OpI w0 fb a D C B j kr kp vr vp kbs qs w' :=
  ⟨h.head.gr0 k, own_gr0 h.regs k, own_gr0 h.perms k, fun q hq => (h.rg q hq).gr0 k, h.dj, h.nr, h.rp, h.dev.gr0 k, h.gr.trans k, h.fl, h.al⟩
theorem OpI.rlt (h : OpI w0 fb a D C B j kr kp vr vp kbs qs wr) {q : Nat} (hq : q < kr) : ∀ x ∈ kbs q :: (qs q).all, x < wr.heap.size := fun x hx => by
  rcases List.mem_cons.1 hx with rfl | hx
  · exact (h.rg q hq).head.lt
  · exact (h.rg q hq).bk.lt _ hx
theorem OpI.mid (h : OpI w0 fb a D C B j kr kp vr vp kbs qs w1) (g1 : Gr [] w1 w2) {row : Option Nat} (hg : w2.grownBy w6 row) (o : Nat) (v : Value) : Gr (row.toList ++ [fb]) w1 (w6.setCell ⟨fb, o, none⟩ v) :=
  (((g1.of0 (cs := row.toList ++ [fb])).trans ((gr_grown9 hg).mono fun b hb => List.mem_append.2 (.inl hb)))).setCell (p := ⟨fb, o, none⟩) (.inl (by simp)) v
/-- One region more. -/
theorem OpI.snocR (h : OpI w0 fb a D C B j kr kp vr vp kbs qs w1) (hr : RgIs w1 kb q a (regC C kr) (B kr) 64 (j kr) 0)
    (hn : ∀ x ∈ kb :: q.all, x ≠ fb ∧ vr.ownBlock ≠ some x ∧ vp.ownBlock ≠ some x ∧ w0.heap.size ≤ x ∧ ∀ q2, q2 < kr → x ∉ kbs q2 :: (qs q2).all)
    (g1 : Gr [] w1 w2) (hown : w6.ownsRow (fb + 1) 104 1 (.slice (some ⟨g, 0, none⟩) (kr + 1) cp) (kr + 1) (ptrL kbs kr ++ [.pointer (some ⟨kb, 0, none⟩)]))
    (hg : w2.grownBy w6 vr.ownBlock) (hat : vr.ownBlock = some g ∨ g = w2.heap.size) :
    OpI w0 fb a D C B j (kr + 1) kp (.slice (some ⟨g, 0, none⟩) (kr + 1) cp) vp (updN kbs kr kb) (updN qs kr q) (w6.setCell ⟨fb, 5, none⟩ (.slice (some ⟨g, 0, none⟩) (kr + 1) cp)) := by
  have hG := h.mid g1 hg 5 (.slice (some ⟨g, 0, none⟩) (kr + 1) cp)
  have hs := g1.size
  have hrow : ∀ b ∈ vr.ownBlock.toList ++ [fb], vr.ownBlock = some b ∨ b = fb := fun b hb => by
    rcases List.mem_append.1 hb with hb | hb
    · exact .inl (by simpa using hb)
    · exact .inr (by simpa using hb)
  have hlr : ∀ b, vr.ownBlock = some b → fb + 1 ≤ b ∧ b < w1.heap.size := fun b e => h.regs.lt b e
  have hlp : ∀ b, vp.ownBlock = some b → fb + 1 ≤ b ∧ b < w1.heap.size := fun b e => h.perms.lt b e
  have hgn : ∀ x, x < w1.heap.size → vr.ownBlock ≠ some x → g ≠ x := fun x hx hv e => by
    rcases hat with c | c
    · exact hv (by rw [c, e])
    · omega
  have hob : (Value.slice (some ⟨g, 0, none⟩) (kr + 1) cp).ownBlock = some g := rfl
  have hkr : ∀ q2, q2 < kr + 1 → ∀ x ∈ updN kbs kr kb q2 :: (updN qs kr q q2).all, x ≠ fb ∧ vr.ownBlock ≠ some x ∧ vp.ownBlock ≠ some x ∧ w0.heap.size ≤ x ∧ x < w1.heap.size := fun q2 hq2 x hx => by
    by_cases c : q2 = kr
    · subst c
      rw [updN_same, updN_same] at hx
      obtain ⟨a1, a2, a3, a4, a5⟩ := hn x hx
      refine ⟨a1, a2, a3, a4, ?_⟩
      rcases List.mem_cons.1 hx with rfl | hx
      · exact hr.head.lt
      · exact hr.bk.lt _ hx
    · rw [updN_other _ _ c, updN_other _ _ c] at hx
      obtain ⟨a1, a2, a3, a4⟩ := h.nr q2 (by omega) x hx
      exact ⟨a1, a2, a3, a4, h.rlt (by omega) x hx⟩
  have hdev : ∀ b ∈ a.all, b ∉ vr.ownBlock.toList ++ [fb] := fun b hb hb2 => by
    have h1 := h.al b hb
    have h2 := h.fl
    rcases hrow b hb2 with c | c
    · have := (hlr b c).1; omega
    · omega
  refine ⟨?_, ?_, ?_, fun q2 hq2 => ?_, fun q1 q2 h1 h2 hne x hx => ?_, fun q2 hq2 x hx => ?_, fun b hb => ?_, ?_, ?_, h.fl, h.al⟩
  · have hd : Holds w6 fb (opRow C vr vp) 136 := (h.head.gr0 g1).gr (gr_grown9 hg) (fun e => by have := (hlr fb (by simpa using e)).1; omega)
    have := hd.set 5 (.slice (some ⟨g, 0, none⟩) (kr + 1) cp)
    exact this
  · rw [ptrL_snoc]
    exact own_gr hown ((Gr.refl [fb] w6).setCell (p := ⟨fb, 5, none⟩) (.inl (by simp)) _) (fun b hb e => by have := (hown.lt b hb).1; simp at e; omega)
  · exact own_gr h.perms hG (fun b hb e => by
      rcases hrow b e with c | c
      · exact h.rp b c hb
      · have := (hlp b hb).1; omega)
  · have key : ∀ x ∈ updN kbs kr kb q2 :: (updN qs kr q q2).all, x ∉ vr.ownBlock.toList ++ [fb] := fun x hx e => by
      obtain ⟨a1, a2, _⟩ := hkr q2 hq2 x hx
      rcases hrow x e with c | c
      · exact a2 c
      · exact a1 c
    have hbase : RgIs w1 (updN kbs kr kb q2) (updN qs kr q q2) a (regC C q2) (B q2) 64 (j q2) 0 := by
      by_cases c : q2 = kr
      · subst c
        rw [updN_same, updN_same]
        exact hr
      · rw [updN_other _ _ c, updN_other _ _ c]
        exact h.rg q2 (by omega)
    exact hbase.gr hG (key _ (by simp)) (fun b hb => key b (by simp [hb]))
  · by_cases c1 : q1 = kr
    · subst c1
      rw [updN_other _ _ (fun e => hne e.symm), updN_other _ _ (fun e => hne e.symm)]
      rw [updN_same, updN_same] at hx
      exact (hn x hx).2.2.2.2 q2 (by omega)
    · by_cases c2 : q2 = kr
      · subst c2
        rw [updN_same, updN_same]
        rw [updN_other _ _ hne, updN_other _ _ hne] at hx
        exact fun hx2 => (hn x hx2).2.2.2.2 q1 (by omega) hx
      · rw [updN_other _ _ c2, updN_other _ _ c2]
        rw [updN_other _ _ c1, updN_other _ _ c1] at hx
        exact h.dj q1 q2 (by omega) (by omega) hne x hx
  · obtain ⟨a1, a2, a3, a4, a5⟩ := hkr q2 hq2 x hx
    refine ⟨a1, ?_, a3, a4⟩
    rw [hob]
    intro e
    exact hgn x a5 a2 (by injection e)
  · rw [hob] at hb
    injection hb with hb
    subst hb
    rcases hat with c | c
    · exact h.rp g c
    · intro e
      have := (hlp g e).2
      omega
  · exact h.dev.gr hG hdev
  · refine h.gr.nextN hG fun x hx => .inr ?_
    have h2 := h.fl
    rcases hrow x hx with c | c
    · have := (hlr x c).1; omega
    · omega
/-- One permutation more. -/
theorem OpI.snocP (h : OpI w0 fb a D C B j kr kp vr vp kbs qs w1)
    (g1 : Gr [] w1 w2) (hown : w6.ownsRow (fb + 1) 139 6 (.slice (some ⟨g, 0, none⟩) (kp + 1) cp) (kp + 1) (permL C kp ++ (permRow C kp).toList))
    (hg : w2.grownBy w6 vp.ownBlock) (hat : vp.ownBlock = some g ∨ g = w2.heap.size) :
    OpI w0 fb a D C B j kr (kp + 1) vr (.slice (some ⟨g, 0, none⟩) (kp + 1) cp) kbs qs (w6.setCell ⟨fb, 6, none⟩ (.slice (some ⟨g, 0, none⟩) (kp + 1) cp)) := by
  have hG := h.mid g1 hg 6 (.slice (some ⟨g, 0, none⟩) (kp + 1) cp)
  have hs := g1.size
  have hrow : ∀ b ∈ vp.ownBlock.toList ++ [fb], vp.ownBlock = some b ∨ b = fb := fun b hb => by
    rcases List.mem_append.1 hb with hb | hb
    · exact .inl (by simpa using hb)
    · exact .inr (by simpa using hb)
  have hlr : ∀ b, vr.ownBlock = some b → fb + 1 ≤ b ∧ b < w1.heap.size := fun b e => h.regs.lt b e
  have hlp : ∀ b, vp.ownBlock = some b → fb + 1 ≤ b ∧ b < w1.heap.size := fun b e => h.perms.lt b e
  have hgn : ∀ x, x < w1.heap.size → vp.ownBlock ≠ some x → g ≠ x := fun x hx hv e => by
    rcases hat with c | c
    · exact hv (by rw [c, e])
    · omega
  have hob : (Value.slice (some ⟨g, 0, none⟩) (kp + 1) cp).ownBlock = some g := rfl
  have hdev : ∀ b ∈ a.all, b ∉ vp.ownBlock.toList ++ [fb] := fun b hb hb2 => by
    have h1 := h.al b hb
    have h2 := h.fl
    rcases hrow b hb2 with c | c
    · have := (hlp b c).1; omega
    · omega
  refine ⟨?_, ?_, ?_, fun q2 hq2 => ?_, h.dj, fun q2 hq2 x hx => ?_, fun b hb => ?_, ?_, ?_, h.fl, h.al⟩
  · have hd : Holds w6 fb (opRow C vr vp) 136 := (h.head.gr0 g1).gr (gr_grown9 hg) (fun e => by have := (hlp fb (by simpa using e)).1; omega)
    have := hd.set 6 (.slice (some ⟨g, 0, none⟩) (kp + 1) cp)
    exact this
  · exact own_gr h.regs hG (fun b hb e => by
      rcases hrow b e with c | c
      · exact h.rp b hb c
      · have := (hlr b hb).1; omega)
  · rw [permL_snoc]
    exact own_gr hown ((Gr.refl [fb] w6).setCell (p := ⟨fb, 6, none⟩) (.inl (by simp)) _) (fun b hb e => by have := (hown.lt b hb).1; simp at e; omega)
  · have key : ∀ x ∈ kbs q2 :: (qs q2).all, x ∉ vp.ownBlock.toList ++ [fb] := fun x hx e => by
      obtain ⟨a1, a2, a3, _⟩ := h.nr q2 hq2 x hx
      rcases hrow x e with c | c
      · exact a3 c
      · exact a1 c
    exact (h.rg q2 hq2).gr hG (key _ (by simp)) (fun b hb => key b (by simp [hb]))
  · obtain ⟨a1, a2, a3, a4⟩ := h.nr q2 hq2 x hx
    refine ⟨a1, a2, ?_, a4⟩
    rw [hob]
    intro e
    exact hgn x (h.rlt hq2 x hx) a3 (by injection e)
  · rw [hob]
    intro e
    injection e with e
    subst e
    rcases hat with c | c
    · exact h.rp g hb c
    · have := (hlr g hb).2
      omega
  · exact h.dev.gr hG hdev
  · refine h.gr.nextN hG fun x hx => .inr ?_
    have h2 := h.fl
    rcases hrow x hx with c | c
    · have := (hlp x c).1; omega
    · omega
/-- Behind the loop: a list. -/
theorem OpI.done (hC : OkC C) (h : OpI w0 fb a D C B j (cR C) (cR C) vr vp kbs qs wr) : ∃ A : FlA, A.fb = fb ∧ FlIs wr A a C B 64 j (fun _ => 0) ∧ ∀ x ∈ A.all (cR C), w0.heap.size ≤ x := by
  obtain ⟨n1, n2, n3, n4, _⟩ := hC.nums
  have hf := h.fl
  have hr := h.regs
  have hp := h.perms
  obtain ⟨R, hR⟩ : ∃ R, R = cR C := ⟨_, rfl⟩
  rw [← hR] at hr hp n3 n4
  rcases hr.2 with ⟨_, hz⟩ | ⟨gr, cr, curr, hvr, hgr, hhr, _, _, hsr, htr⟩
  · omega
  rcases hp.2 with ⟨_, hz⟩ | ⟨gp, cp, curp, hvp, hgp, hhp, _, _, hsp, htp⟩
  · omega
  have hor : vr.ownBlock = some gr := by rw [hvr]; rfl
  have hop : vp.ownBlock = some gp := by rw [hvp]; rfl
  have har : ∀ x ∈ a.all, x < fb := fun x hx => by have := h.al x hx; omega
  refine ⟨⟨fb, gr, gp, cr, cp, kbs, qs⟩, rfl, ⟨hC, ?_, fun q hq => ?_, fun q hq i v hi => ?_, h.rg, h.dj, fun q hq x hx => ?_, ?_⟩, fun x hx => ?_⟩
  · have := h.head
    rw [hvr, hvp, hR] at this
    exact this
  · have hc : wr.cell? ⟨gr, q, none⟩ = curr[q]? := (show Holds wr gr curr 104 from hhr).cell q
    have ht : (curr.toList.take (R * 1))[q]? = some (.pointer (some ⟨kbs q, 0, none⟩)) := by
      rw [htr]
      unfold ptrL
      rw [List.getElem?_map, List.getElem?_range (by omega)]
      rfl
    rw [List.getElem?_take, if_pos (by omega), Array.getElem?_toList] at ht
    exact hc.trans ht
  · have hc : wr.cell? ⟨gp, q * 6 + i, none⟩ = curp[q * 6 + i]? := (show Holds wr gp curp 139 from hhp).cell (q * 6 + i)
    have ht : (curp.toList.take (R * 6))[q * 6 + i]? = some v := by
      rw [htp]
      exact permL_get C (by omega) hi
    have hi6 : i < 6 := by
      have := (Array.getElem?_eq_some_iff.1 hi).1
      simpa [permRow] using this
    rw [List.getElem?_take, if_pos (by omega), Array.getElem?_toList] at ht
    exact hc.trans ht
  · obtain ⟨a1, a2, a3, a4⟩ := h.nr q hq x hx
    exact ⟨a1, fun e => a2 (by rw [hor, e]), fun e => a3 (by rw [hop, e])⟩
  · have q1 := (hr.lt gr hor).1
    have q2 := (hp.lt gp hop).1
    exact ⟨fun e => by have := har fb e; omega, fun e => by have := har gr e; omega, fun e => by have := har gp e; omega⟩
  · have q1 := (hr.lt gr hor).1
    have q2 := (hp.lt gp hop).1
    rcases FlA.cases hx with e | e | e | ⟨q, hq, hx⟩
    · have e' : x = fb := e
      omega
    · have e' : x = gr := e
      omega
    · have e' : x = gp := e
      omega
    · exact (h.nr q hq x hx).2.2.2
end
end Go.Proofs.YtifekejcbhllpaaGreat
