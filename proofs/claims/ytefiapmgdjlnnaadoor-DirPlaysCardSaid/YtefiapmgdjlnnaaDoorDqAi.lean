/-
  DqAi: Sum3, DiU, DiV, FrameX.
-/
import Derived.Test.YtefiapmgdjlnnaaDoorDnAa
import Derived.Test.YtefiapmgdjlnnaaDoorDnAb
import Derived.Test.YtefiapmgdjlnnaaDoorDnAc
import Derived.Test.YtefiapmgdjlnnaaDoorDnAd
import Derived.Test.YtefiapmgdjlnnaaDoorDnAe
import Derived.Test.YtefiapmgdjlnnaaDoorDnAf
import Derived.Test.YtefiapmgdjlnnaaDoorDnAg
import Derived.Test.YtefiapmgdjlnnaaDoorDnAh
import Derived.Test.YtefiapmgdjlnnaaDoorDnAi
import Derived.Test.YtefiapmgdjlnnaaDoorDqAh
import Derived.Test.YtefiapmgdjlnnaaDoorDqAg
import Derived.Test.YtefiapmgdjlnnaaDoorDqAa

set_option linter.unusedVariables false

/-
  The reference's Sum16 and Guard.
-/
namespace Go.Proofs.YtefiapmgdjlnnaaDoor
open Go.RowKit

theorem own_zero {w : World} {base : Nat} {e : TypeId} {size n : Nat} {v : Value} {xs : List Value} (h : w.ownsRow base e size v n xs) : w.ownsRow 0 e size v n xs := by
  refine ⟨h.1, ?_⟩
  rcases h.2 with hn | ⟨g, cap, cur, hv, hg, rest⟩
  · exact .inl hn
  · exact .inr ⟨g, cap, cur, hv, Nat.zero_le _, rest⟩
theorem own_slice {w : World} {base : Nat} {e : TypeId} {size n : Nat} {v : Value} {xs : List Value} (h : w.ownsRow base e size v n xs) (hn : n ≠ 0) : ∃ g cap, v = .slice (some ⟨g, 0, none⟩) n cap ∧ base ≤ g := by
  rcases h.2 with ⟨_, h0⟩ | ⟨g, cap, cur, hv, hg, rest⟩
  · exact absurd h0 hn
  · exact ⟨g, cap, hv, hg⟩
theorem own_new (w : World) (e : TypeId) (cs : Array Value) (h : cs.size ≤ maxLen) : (w.alloc (.cells cs e)).ownsRow 0 e 1 (.slice (some ⟨w.heap.size, 0, none⟩) cs.size cs.size) cs.size cs.toList := by
  refine ⟨by simp, .inr ⟨w.heap.size, cs.size, cs, rfl, Nat.zero_le _, heap_alloc_new w _, Nat.le_refl _, h, by simp, ?_⟩⟩
  rw [Nat.mul_one, ← Array.length_toList, List.take_length]

theorem reg_step {w : Nat} (p x : BitVec w) (f : Nat → Bool) (b : Bool) (hw : 0 < w) (h : ∀ j, j < w → f j = x.getMsbD j) : ∀ j, j < w → stF w (fun j => p.getMsbD j) f b j = (st p x b).getMsbD j := by
  intro j hj
  have hm : x.msb = f 0 := by rw [h 0 hw, BitVec.msb]
  have hs : shF w f j = (x <<< 1).getMsbD j := by
    unfold shF
    rw [BitVec.getMsbD_shiftLeft]
    by_cases c : j + 1 < w
    · rw [if_pos c, h _ c]
    · rw [if_neg c, BitVec.getMsbD]
      simp; intro hc; omega
  unfold stF st
  rw [BitVec.getMsbD_xor, hs, hm]
  by_cases c : (f 0 ^^ b) = true
  · rw [if_pos c, if_pos c]
  · rw [if_neg c, if_neg c]; simp
theorem reg_fold {w : Nat} (p : BitVec w) (hw : 0 < w) (l : List Bool) : ∀ (x : BitVec w) (f : Nat → Bool), (∀ j, j < w → f j = x.getMsbD j) → ∀ j, j < w → (l.foldl (stF w (fun j => p.getMsbD j)) f) j = (l.foldl (st p) x).getMsbD j := by
  induction l with
  | nil => intro x f h; exact h
  | cons b l ih =>
    intro x f h
    simp only [List.foldl_cons]
    exact ih _ _ (reg_step p x f b hw h)
theorem bitsD_hi (u : UInt8) : bitsD false u = bitsHi u := by
  unfold bitsD bitsHi
  simp
theorem ones16 : ∀ j, j < 16 → (fun _ : Nat => true) j = (0xFFFF#16).getMsbD j := by decide
def turns16 : List Value := [.int .i64 0, .int .i64 0, .int .i64 0, .int .i64 1, .int .i64 0, .int .i64 0, .int .i64 0, .int .i64 0, .int .i64 0, .int .i64 0, .int .i64 1, .int .i64 0, .int .i64 0, .int .i64 0, .int .i64 0, .int .i64 1]
theorem bits16 : ∀ j : Fin 16, (List.map (fun b : Bool => (b.toNat : Int)) [false, false, false, true, false, false, false, false, false, false, true, false, false, false, false, true])[j]? = some (((0x1021#16).getMsbD j).toNat : Int) := by decide
theorem turns_reg : RegIs turns16 16 (fun j => (0x1021#16).getMsbD j) := by
  refine ⟨rfl, fun j hj => ?_⟩
  have h := bits16 ⟨j, hj⟩
  have e : turns16 = (List.map (fun b : Bool => (b.toNat : Int)) [false, false, false, true, false, false, false, false, false, false, true, false, false, false, false, true]).map (Value.int .i64) := rfl
  rw [e, List.getElem?_map]
  simp only [Fin.getElem?_fin] at h
  rw [h]; rfl
theorem sum16_num (l : List UInt8) (F : Nat → Bool) (h : F = (preB false l).foldl (stF 16 (fun j => (0x1021#16).getMsbD j)) (fun _ => true)) : numF F 16 = n16 (sum16 l) := by
  have hp : preB false l = l.flatMap bitsHi := by
    unfold preB
    rw [show bitsD false = bitsHi from funext bitsD_hi]
  have hf := reg_fold (0x1021#16) (by omega) (l.flatMap bitsHi) 0xFFFF#16 (fun _ => true) ones16
  rw [sum16_bits] at hf
  subst h
  rw [hp]
  exact numF_all (c16 l 0xFFFF#16) _ hf

set_option maxRecDepth 100000 in
set_option maxHeartbeats 1000000 in
theorem rsum16 (s : ByteArray) (w : World) (h1 : 1 ≤ s.size) (h2 : s.size ≤ 2000) :
    Calls Tryd.prog 41 #[.string s] w fun e w' => e = .returned (.int .u64 (n16 (sum16 s.data.toList) : Nat)) ∧ Below w.heap.size w w' := by
  go_enter Tryd.func41, Tryd.ntmps41
  go_wp2_with fail
  have T1 : (w.alloc (Obj.cells #[Value.int IntKind.i64 0, Value.int IntKind.i64 0, Value.int IntKind.i64 0, Value.int IntKind.i64 1, Value.int IntKind.i64 0, Value.int IntKind.i64 0, Value.int IntKind.i64 0, Value.int IntKind.i64 0, Value.int IntKind.i64 0, Value.int IntKind.i64 0, Value.int IntKind.i64 1, Value.int IntKind.i64 0, Value.int IntKind.i64 0, Value.int IntKind.i64 0, Value.int IntKind.i64 0, Value.int IntKind.i64 1] 3)).ownsRow 0 3 1 (.slice (some ⟨w.heap.size, 0, none⟩) 16 16) 16 turns16 := own_new w 3 #[Value.int IntKind.i64 0, Value.int IntKind.i64 0, Value.int IntKind.i64 0, Value.int IntKind.i64 1, Value.int IntKind.i64 0, Value.int IntKind.i64 0, Value.int IntKind.i64 0, Value.int IntKind.i64 0, Value.int IntKind.i64 0, Value.int IntKind.i64 0, Value.int IntKind.i64 1, Value.int IntKind.i64 0, Value.int IntKind.i64 0, Value.int IntKind.i64 0, Value.int IntKind.i64 0, Value.int IntKind.i64 1] (by unfold maxLen; simp)
  have B1 := below_new (Below.refl _ w) (Obj.cells #[Value.int IntKind.i64 0, Value.int IntKind.i64 0, Value.int IntKind.i64 0, Value.int IntKind.i64 1, Value.int IntKind.i64 0, Value.int IntKind.i64 0, Value.int IntKind.i64 0, Value.int IntKind.i64 0, Value.int IntKind.i64 0, Value.int IntKind.i64 0, Value.int IntKind.i64 1, Value.int IntKind.i64 0, Value.int IntKind.i64 0, Value.int IntKind.i64 0, Value.int IntKind.i64 0, Value.int IntKind.i64 1] 3)
  generalize w.alloc (Obj.cells #[Value.int IntKind.i64 0, Value.int IntKind.i64 0, Value.int IntKind.i64 0, Value.int IntKind.i64 1, Value.int IntKind.i64 0, Value.int IntKind.i64 0, Value.int IntKind.i64 0, Value.int IntKind.i64 0, Value.int IntKind.i64 0, Value.int IntKind.i64 0, Value.int IntKind.i64 1, Value.int IntKind.i64 0, Value.int IntKind.i64 0, Value.int IntKind.i64 0, Value.int IntKind.i64 0, Value.int IntKind.i64 1] 3) = wa at *
  refine (rbits s false _ h2).mono ?_
  rintro e w2 ⟨v, rfl, hown, hb2⟩
  obtain ⟨g, cap, rfl, hgb⟩ := own_slice hown (by omega)
  have T2 := Lib.hid (own_keepS T1 hb2)
  have O2 := Lib.hid (own_zero hown)
  have B2 := below_next B1 hb2
  clear T1 B1 hb2 hown
  go_wp2_with fail
  refine (rsum 16 (8 * s.size) g cap w.heap.size 16 (preB false s.data.toList) (fun j => (0x1021#16).getMsbD j) turns16 _ (by omega) (by omega) (by rw [preB_length, Array.length_toList]; rfl) (by omega) O2.out T2.out turns_reg).mono ?_
  rintro e w3 ⟨xs, rfl, hown3, hreg, hb3⟩
  have B3 := below_next B2 hb3
  obtain ⟨F, hF⟩ : ∃ F, F = (preB false s.data.toList).foldl (stF 16 (fun j => (0x1021#16).getMsbD j)) (fun _ => true) := ⟨_, rfl⟩
  rw [← hF] at hreg
  have O3 := Lib.hid (And.intro (own_zero hown3) hreg)
  have HF := Lib.hid hF
  clear hF hreg hown3 hb3 B2 O2 T2
  go_wp2_with fail
  refine (rnumber 16 _ 16 F xs _ (by omega) O3.out.1 O3.out.2).mono ?_
  rintro e w4 ⟨rfl, rfl⟩
  rw [sum16_num _ F HF.out]
  go_wp2_with fail
  go_ret
  exact ⟨rfl, B3⟩

end Go.Proofs.YtefiapmgdjlnnaaDoor

/-
  Layer 17 (dir), the document's Counts.
-/
namespace Go.Proofs.YtefiapmgdjlnnaaDoor
open Go.RowKit Go.Shelf
set_option linter.unusedVariables false

theorem makeI_run (n : Nat) (hn : n ≤ 131072) (W : World) :
    (Instr.makeSlice 51 (.int .i64 (n : Int)) (.int .i64 (n : Int))).run Tryd.prog W = .ok (.slice (some ⟨W.heap.size, 0, none⟩) n n) (W.alloc (.cells (rowT (fun _ => .int .i64 0) n) 3)) := by
  obtain ⟨i0, h0, hz0, hz1, hz2⟩ := info_parts infoI17
  have hbm2 : (i0.bytes : Int) * ((n : Nat) : Int) ≤ 281474976710656 := by rw [hz2]; omega
  have r := run_make (P := Tryd.prog) W 51 3 i0 _ Tryd.underlying51 h0 hz0 .i64 .i64 (n : Int) (n : Int) (by omega) (Int.le_refl _) hbm2 (by omega)
  simp only [Int.toNat_natCast, hz1] at r
  rw [r, ← rowT_made (.int .i64 0) rfl n]
theorem cntB_snoc (nb i : Nat) (s : ByteArray) (N : List ByteArray) : cntB nb i (N ++ [s]) = if i = hB s % nb then cntB nb i N + 1 else cntB nb i N := by
  unfold cntB inB
  rw [List.filter_append, List.length_append]
  by_cases h : i = hB s % nb
  · simp [h]
  · have h2 : ¬ hB s % nb = i := fun q => h q.symm
    simp [h, h2]
/-- The names of entries. -/
abbrev namE (L : List Ent) : List ByteArray := L.map Prod.fst
/-- The document's counting at work. -/
structure CnI (w wr : World) (base bb tb : Nat) (v : Value) (nb i : Nat) (L : List Ent) : Prop where
  gr : Gr [] w wr
  ls : EntR wr base v L
  bx : Holds wr bb #[v, .int .i64 (nb : Int)] 27
  row : Holds wr tb (rowT (fun k => .int .i64 (cntB nb k (namE (L.take i)) : Int)) nb) 3
  lo : w.heap.size ≤ bb ∧ bb < tb
  lv : ∀ g, v.ownBlock = some g → g < w.heap.size
section
variable {w wr W : World} {base bb tb nb i : Nat} {v : Value} {L : List Ent}
theorem CnI.gr0 (h : CnI w wr base bb tb v nb i L) (g : Gr [] wr W) : CnI w W base bb tb v nb i L := ⟨h.gr.next0 g, h.ls.gr0 g, h.bx.gr0 g, h.row.gr0 g, h.lo, h.lv⟩
theorem CnI.next (h : CnI w wr base bb tb v nb i L) (hi : i < L.length) : CnI w (wr.setCell ⟨tb, hB L[i].1 % nb, none⟩ (.int .i64 ((cntB nb (hB L[i].1 % nb) (namE (L.take i)) : Int) + 1))) base bb tb v nb (i + 1) L := by
  obtain ⟨l1, l2⟩ := h.lo
  have g3 : Gr [tb] wr (wr.setCell ⟨tb, hB L[i].1 % nb, none⟩ (.int .i64 ((cntB nb (hB L[i].1 % nb) (namE (L.take i)) : Int) + 1))) := (Gr.refl _ _).setCell (p := ⟨tb, hB L[i].1 % nb, none⟩) (.inl (List.mem_singleton.2 rfl)) _
  refine ⟨h.gr.nextN g3 fun b hb => .inr (by rw [List.mem_singleton] at hb; omega), h.ls.gr g3 fun b hb q => by rw [List.mem_singleton] at q; have := h.lv b hb; omega, h.bx.gr g3 fun q => by rw [List.mem_singleton] at q; omega, ?_, h.lo, h.lv⟩
  have r := h.row.set (hB L[i].1 % nb) (.int .i64 ((cntB nb (hB L[i].1 % nb) (namE (L.take i)) : Int) + 1))
  rw [rowT_set] at r
  rw [rowT_congr fun k hk => ?_]
  · exact r
  · rw [List.take_succ_eq_append_getElem hi]
    unfold namE
    rw [List.map_append, List.map_cons, List.map_nil, cntB_snoc]
    by_cases c : k = hB L[i].1 % nb
    · rw [if_pos c, if_pos c, c]; rfl
    · rw [if_neg c, if_neg c]
end
set_option maxHeartbeats 8000000 in
set_option maxRecDepth 100000 in
theorem rcounts_any {w : World} {base nb : Nat} {v : Value} {L : List Ent} (h : EntR w base v L) (hL : L.length ≤ 1000000) (hs : ∀ x ∈ L, 1 ≤ x.1.size ∧ x.1.size ≤ 2000) (h1 : 1 ≤ nb) (h2 : nb ≤ 131072) (hlv : ∀ g, v.ownBlock = some g → g < w.heap.size) :
    Calls Tryd.prog 30 #[.agg #[v, .int .i64 (nb : Int)]] w fun e w' => ∃ g, e = .returned (.slice (some ⟨g, 0, none⟩) nb nb) ∧ w.heap.size ≤ g ∧ g < w'.heap.size ∧ (∀ k, k < nb → w'.cell? ⟨g, k, none⟩ = some (.int .i64 (cntB nb k (namE L) : Int))) ∧ Gr [] w w' := by
  obtain ⟨ao, cap, hv⟩ := h.shape
  subst hv
  have hmk := makeI_run nb h2
  have c1 : (w.alloc (Obj.cells #[.slice ao L.length cap, .int .i64 (nb : Int)] 27)).cell? ⟨w.heap.size, 1, none⟩ = some (.int .i64 (nb : Int)) := (Holds.new w #[.slice ao L.length cap, .int .i64 (nb : Int)] 27).cell 1
  have H1 := Lib.hid (show CnI w ((w.alloc (Obj.cells #[.slice ao L.length cap, .int .i64 (nb : Int)] 27)).alloc (Obj.cells (rowT (fun _ => .int .i64 0) nb) 3)) base w.heap.size (w.heap.size + 1) (.slice ao L.length cap) nb 0 L from by
    have g1 := (Gr.refl [] w).alloc (Obj.cells #[.slice ao L.length cap, .int .i64 (nb : Int)] 27)
    have g2 := g1.alloc (Obj.cells (rowT (fun _ => .int .i64 0) nb) 3)
    refine ⟨g2, h.gr0 g2, (Holds.new w _ _).alloc _, ?_, ⟨Nat.le_refl _, by omega⟩, hlv⟩
    have r := Holds.new (w.alloc (Obj.cells #[.slice ao L.length cap, .int .i64 (nb : Int)] 27)) (rowT (fun _ => .int .i64 0) nb) 3
    rw [World.size_alloc] at r
    exact r)
  have HS := Lib.hid (And.intro hs hL)
  have HB := Lib.hid (And.intro h1 h2)
  clear h hs hlv
  go_enter Tryd.func30, Tryd.ntmps30
  go_upto_region 3 with fail
  generalize ((w.alloc (Obj.cells #[.slice ao L.length cap, .int .i64 (nb : Int)] 27)).alloc (Obj.cells (rowT (fun _ => .int .i64 0) nb) 3)) = w1 at *
  try rw [World.size_alloc]
  obtain ⟨b0, hb0⟩ : ∃ x, w.heap.size = x := ⟨_, rfl⟩
  rw [hb0] at H1 ⊢
  have HB0 := Lib.hid hb0
  clear hb0 c1 hmk
  go_loopw [4] (fun z wr => ∃ i : Nat, i ≤ L.length ∧ z = .int .i64 (i : Int) ∧ CnI w wr base b0 (b0 + 1) (.slice ao L.length cap) nb i L) (fun z _ => L.length - (intOf z).toNat)
  case atStart => exact ⟨0, by omega, rfl, H1.out⟩
  case round =>
    clear H1
    obtain ⟨i, hi, rfl, Q⟩ := hrel
    have HQ := Lib.hid Q
    clear Q
    have cb := HQ.out.bx.cell 0
    by_cases hlt : i < L.length
    · as_aux_lemma =>
        obtain ⟨g, cap2, e, _, hg2, ca, cn⟩ := HQ.out.ls.at' hlt
        injection e with e1 _ e2
        subst e1
        have ib : (i : Int) < (L.length : Int) := by omega
        have ib0 : (0 : Int) ≤ (i : Int) := by omega
        obtain ⟨x, hx⟩ : ∃ x, x = L[i] := ⟨_, rfl⟩
        have HX := Lib.hid hx
        rw [← hx] at ca cn
        have hxs := HS.out.1 x (by rw [hx]; exact List.getElem_mem _)
        have HSm := Lib.hid (fun W => rsum16 x.1 W hxs.1 hxs.2)
        have hml : hB x.1 % nb < nb := Nat.mod_lt _ (by have := HB.out.1; omega)
        have hlb := hB_lt x.1
        have HML := Lib.hid hml
        clear hx e2 cn hxs
        go_wp2_with fail
        refine (HSm.out _).mono ?_
        rintro e w2 ⟨rfl, hbe⟩
        have g2 := Gr.ofBelow (cs := []) hbe
        have HN2 := Lib.hid (show CnI w w2 base b0 (b0 + 1) _ nb i L from HQ.out.gr0 g2)
        obtain ⟨k, hk⟩ : ∃ k, k = hB x.1 := ⟨_, rfl⟩
        have hk' : n16 (sum16 x.1.data.toList) = k := hk.symm
        rw [hk']
        rw [← hk] at hml hlb
        have HK := Lib.hid hk
        obtain ⟨m, hm⟩ : ∃ m, m = k % nb := ⟨_, rfl⟩
        rw [← hm] at hml
        have HM := Lib.hid hm
        have hb := HB.out
        have u1 : IntKind.i64.wrap (k : Int) = (k : Int) := IntWalk.i64_in _ (by omega)
        have t1 : (k : Int).tmod (nb : Int) = (m : Int) := by rw [hm]; exact (Int.ofNat_tmod k nb).symm
        have u2 : IntKind.i64.wrap (m : Int) = (m : Int) := IntWalk.i64_in _ (by omega)
        have z1 : ((nb : Int) == 0) = false := by simp; omega
        have z2 : ¬ (nb : Int) = 0 := by omega
        have z3 : ¬ nb = 0 := by omega
        have l1 : (m : Int) < (nb : Int) := by omega
        have l2 : (0 : Int) ≤ (m : Int) := by omega
        have d1 := HN2.out.bx.cell 1
        have ct : w2.cell? ⟨b0 + 1, m, none⟩ = some (.int .i64 (cntB nb m (namE (L.take i)) : Int)) := by rw [HN2.out.row.cell, rowT_get _ _ _ hml]
        have ft := HN2.out.row.frozen m
        have hcl : cntB nb m (namE (L.take i)) ≤ 1000000 := by
          have h1 := cntB_le nb m (namE (L.take i))
          have h2 : (namE (L.take i)).length = i := by unfold namE; rw [List.length_map, List.length_take]; omega
          have h3 := HS.out.2
          omega
        have HNX := Lib.hid (HN2.out.next hlt)
        rw [← HX.out, ← HK.out, ← HM.out] at HNX
        obtain ⟨c, hc⟩ : ∃ c, c = cntB nb m (namE (L.take i)) := ⟨_, rfl⟩
        rw [← hc] at ct hcl HNX
        have HL := Lib.hid hlt
        clear hc hm hk hk' hbe g2 cb ca hg2 HQ hi HX hlt
        go_wp2_with fail
        go_roundw
        case rel => exact ⟨i + 1, HL.out, by go_num, HNX.out⟩
        case measure => have := HL.out; simp [intOf]; omega
    · obtain rfl : i = L.length := by omega
      have HF := Lib.hid HQ.out
      clear hlt hi HQ
      go_wp2_with fail
      go_ret
      refine ⟨_, rfl, ?_, HF.out.row.lt, fun k hk => ?_, HF.out.gr⟩
      · have := HF.out.lo; have := HB0.out; omega
      · rw [HF.out.row.cell, rowT_get _ _ _ hk, List.take_length]
end Go.Proofs.YtefiapmgdjlnnaaDoor

/-
  Layer 17 (dir): what DirPlays holds a directory against.
-/
namespace Go.Proofs.YtefiapmgdjlnnaaDoor
open Go.RowKit Go.Shelf
set_option linter.unusedVariables false

theorem SrtF.perm {F : ByteArray → Option Nat} {L : List Ent} {N : List ByteArray} (h : SrtF F L) (ok : NmOk F N) : (namE L).Perm N := by
  have hnd : (L.map Prod.fst).Nodup := List.pairwise_map.2 (h.up.imp fun {x y} q e => by rw [e] at q; exact List.lt_irrefl _ q)
  exact (List.perm_ext_iff_of_nodup hnd ok.nd).2 fun s => by
    rw [List.mem_map, ok.mem s]
    constructor
    · rintro ⟨⟨y, v⟩, hy, rfl⟩; rw [(h.mem y v).1 hy]; rfl
    · intro q
      cases c : F s with
      | none => rw [c] at q; cases q
      | some v => exact ⟨(s, v), (h.mem s v).2 c, rfl⟩
/-- Held against each other. -/
structure SmI (w wr : World) (A : DiA) (F : ByteArray → Option Nat) (N : List ByteArray) (base bb : Nat) (v : Value) (nb : Nat) (L : List Ent) : Prop where
  gr : Gr [] w wr
  d : DiIs wr A F N
  e : EntR wr base v L
  bx : Holds wr bb #[v, .int .i64 (nb : Int)] 27
theorem SmI.gr0 {w wr W : World} {A : DiA} {F : ByteArray → Option Nat} {N : List ByteArray} {base bb nb : Nat} {v : Value} {L : List Ent} (h : SmI w wr A F N base bb v nb L) (g : Gr [] wr W) : SmI w W A F N base bb v nb L := ⟨h.gr.next0 g, h.d.gr0 g, h.e.gr0 g, h.bx.gr0 g⟩
set_option maxHeartbeats 16000000 in
set_option maxRecDepth 100000 in
theorem same_any {w : World} {A : DiA} {F : ByteArray → Option Nat} {N : List ByteArray} {base : Nat} {v : Value} {L : List Ent} {nb : Nat} (hD : DiIs w A F N) (hE : EntR w base v L) (hS : SrtF F L) (hnb : A.nb = nb) (hsz : ∀ x ∈ L, 1 ≤ x.1.size ∧ x.1.size ≤ 2000) (hN : N.length ≤ 100000) :
    Calls Tryd.prog 16 #[.pointer (some ⟨A.db, 0, none⟩), .agg #[v, .int .i64 (nb : Int)]] w fun e w' => e = .returned (.bool true) ∧ Gr [] w w' := by
  obtain ⟨ao, cap, hv⟩ := hE.shape
  subst hv
  subst hnb
  have hLN := hS.len hD.ok
  have HPm := Lib.hid (hS.perm hD.ok)
  have HZ := Lib.hid hsz
  have HLL := Lib.hid (show L.length ≤ 100000 by omega)
  have HNb := Lib.hid (show 1 ≤ A.nb ∧ A.nb ≤ 65536 from ⟨hD.nb.1, hD.nb.2.1⟩)
  have HSr := Lib.hid hS
  have H1 := Lib.hid (show SmI w (w.alloc (Obj.cells #[.slice ao L.length cap, .int .i64 (A.nb : Int)] 27)) A F N base w.heap.size (.slice ao L.length cap) A.nb L from by
    have g := (Gr.refl [] w).alloc (Obj.cells #[.slice ao L.length cap, .int .i64 (A.nb : Int)] 27)
    exact ⟨g, hD.gr0 g, hE.gr0 g, Holds.new w _ _⟩)
  have HLs := Lib.hid (fun W bb (h : SmI w W A F N base bb (.slice ao L.length cap) A.nb L) => dlist_any h.d)
  have HBs := Lib.hid (fun W bb (h : SmI w W A F N base bb (.slice ao L.length cap) A.nb L) => dbuckets_any h.d)
  have HCn := Lib.hid (fun W bb (h : SmI w W A F N base bb (.slice ao L.length cap) A.nb L) => rcounts_any h.e (by have := HLL.out; omega) HZ.out HNb.out.1 (by have := HNb.out.2; omega) (fun g hg => (World.ownsRow.lt h.e g hg).2))
  have HLn := Lib.hid (fun W bb (h : SmI w W A F N base bb (.slice ao L.length cap) A.nb L) => (dlen_any h.d).mono fun e w' q => show e = .returned (.int .i64 (L.length : Int)) ∧ w' = W from ⟨by rw [hLN]; exact q.1, q.2⟩)
  clear hD hE hsz hS hN hLN
  go_enter Tryd.func16, Tryd.ntmps16
  go_upto_region 1 with fail
  generalize (w.alloc (Obj.cells #[.slice ao L.length cap, .int .i64 (A.nb : Int)] 27)) = w1 at *
  obtain ⟨bb, hbb⟩ : ∃ x, w.heap.size = x := ⟨_, rfl⟩
  rw [hbb] at H1 ⊢
  clear hbb
  have H0 := Lib.hid (H1.out.gr0 (Gr.refl [] w1).drew)
  have s0 : w1.drew.cell? ⟨bb, 0, none⟩ = some (.slice ao L.length cap) := H0.out.bx.cell 0
  have s1 : w1.drew.cell? ⟨bb, 1, none⟩ = some (.int .i64 (A.nb : Int)) := H0.out.bx.cell 1
  go_region_held3 (fun w' : World => w'.cell? ⟨bb, 0, none⟩ = some (.slice ao L.length cap) ∧ w'.cell? ⟨bb, 1, none⟩ = some (.int .i64 (A.nb : Int))) (with_reducible (first | assumption | exact ⟨by assumption, by assumption⟩)) ((first
    | (go_at_call 22; (with_reducible refine (HLs.out _ _ H0.out).mono ?_); rintro e w3 ⟨gx, capx, L2, rfl, _, b1, b2, b3, b4, g3⟩; obtain rfl : L2 = L := b3.uniq HSr.out; have H3 := Lib.hid (And.intro (H0.out.gr0 g3) (And.intro b1 b2)); have t0 : w3.cell? ⟨bb, 0, none⟩ = some (.slice ao L2.length cap) := H3.out.1.bx.cell 0; have t1 : w3.cell? ⟨bb, 1, none⟩ = some (.int .i64 (A.nb : Int)) := H3.out.1.bx.cell 1; clear b1 b2 b3 b4 g3)
    | (go_at_call 23; (with_reducible refine (HBs.out _ _ H3.out.1).mono ?_); rintro e w4 ⟨gp, capp, rfl, _, b1, b2, g4⟩; have H4 := Lib.hid (show SmI w w4 A F N base bb _ A.nb L2 ∧ (gx < w4.heap.size ∧ EntAt w4 gx L2) ∧ (gp < w4.heap.size ∧ IntAt w4 gp A.nb fun t => cntB A.nb t N) from ⟨H3.out.1.gr0 g4, ⟨Nat.lt_of_lt_of_le H3.out.2.1 g4.size, H3.out.2.2.gr0 H3.out.2.1 g4⟩, b1, b2⟩); have u0 : w4.cell? ⟨bb, 0, none⟩ = some (.slice ao L2.length cap) := H4.out.1.bx.cell 0; have u1 : w4.cell? ⟨bb, 1, none⟩ = some (.int .i64 (A.nb : Int)) := H4.out.1.bx.cell 1; clear b1 b2 g4)
    | (go_at_call 30; (with_reducible refine (HCn.out _ _ H4.out.1).mono ?_); rintro e w5 ⟨gq, rfl, _, b1, b2, g5⟩; have H5 := Lib.hid (show SmI w w5 A F N base bb _ A.nb L2 ∧ (gx < w5.heap.size ∧ EntAt w5 gx L2) ∧ (gp < w5.heap.size ∧ IntAt w5 gp A.nb fun t => cntB A.nb t N) ∧ (gq < w5.heap.size ∧ IntAt w5 gq A.nb fun t => cntB A.nb t N) from ⟨H4.out.1.gr0 g5, ⟨Nat.lt_of_lt_of_le H4.out.2.1.1 g5.size, H4.out.2.1.2.gr0 H4.out.2.1.1 g5⟩, ⟨Nat.lt_of_lt_of_le H4.out.2.2.1 g5.size, H4.out.2.2.2.gr0 H4.out.2.2.1 g5⟩, b1, fun j hj => by rw [b2 j hj, cntB_perm HPm.out]⟩); have v0 : w5.cell? ⟨bb, 0, none⟩ = some (.slice ao L2.length cap) := H5.out.1.bx.cell 0; have v1 : w5.cell? ⟨bb, 1, none⟩ = some (.int .i64 (A.nb : Int)) := H5.out.1.bx.cell 1; clear b1 b2 g5)))
  all_goals try clear s0 s1 t0 t1 u0 u1
  all_goals try clear v0 v1
  go_upto_region 2 with fail
  have k0 := kp_cell (H5.out.1.bx.cell 0)
  have k1 := kp_cell (H5.out.1.bx.cell 1)
  have hne := kp_ne w5
  have K1 := Lib.hid (fun x : Cls (Kp w5) => (HLn.out x.w bb (H5.out.1.gr0 (Gr.ofBelow (cs := []) x.h))).mono fun _ w' q => show _ ∧ Below x.w.heap.size x.w w' from ⟨q.1, q.2 ▸ Below.refl _ _⟩)
  refine wp_region_kp (by kernel_rfl) (by kernel_rfl) ?_
  repeat (go_big_quiet_step ((rename_i x; with_reducible exact kp_call x (K1.out x))))
  with_reducible refine wpQuiet_nil ?_
  rintro _ ⟨y, rfl⟩
  have H7 := Lib.hid (show SmI w y.w A F N base bb _ A.nb L2 ∧ (gx < y.w.heap.size ∧ EntAt y.w gx L2) ∧ (gp < y.w.heap.size ∧ IntAt y.w gp A.nb fun t => cntB A.nb t N) ∧ (gq < y.w.heap.size ∧ IntAt y.w gq A.nb fun t => cntB A.nb t N) from by
    have g := Gr.ofBelow (cs := []) y.h
    exact ⟨H5.out.1.gr0 g, ⟨Nat.lt_of_lt_of_le H5.out.2.1.1 g.size, H5.out.2.1.2.gr0 H5.out.2.1.1 g⟩, ⟨Nat.lt_of_lt_of_le H5.out.2.2.1.1 g.size, H5.out.2.2.1.2.gr0 H5.out.2.2.1.1 g⟩, ⟨Nat.lt_of_lt_of_le H5.out.2.2.2.1 g.size, H5.out.2.2.2.2.gr0 H5.out.2.2.2.1 g⟩⟩)
  clear k0 k1 hne K1 H5 HLs HBs HCn HLn
  generalize y.w = w7 at *
  clear y
  have hnbb := HNb.out.2
  have hll := HLL.out
  go_upto_region 5 with fail
  go_loopw [40] (fun z wr => ∃ j : Nat, j ≤ L2.length ∧ z = .int .i64 (j : Int) ∧ Gr [] w7 wr) (fun z _ => L2.length - (intOf z).toNat)
  case atStart => exact ⟨0, by omega, rfl, Gr.refl _ _⟩
  case round =>
    obtain ⟨j, hj, rfl, gj⟩ := hrel
    by_cases hlt : j < L2.length
    · as_aux_lemma =>
        have jb : (j : Int) < (L2.length : Int) := by omega
        have jb0 : (0 : Int) ≤ (j : Int) := by omega
        have hx := show wr.cell? ⟨gx, j * 2, none⟩ = some (.string L2[j].1) ∧ wr.cell? ⟨gx, j * 2 + 1, none⟩ = some (.int .i64 (L2[j].2 : Int)) from ⟨(gj.cell0 H7.out.2.1.1).trans (H7.out.2.1.2 j hlt).1, (gj.cell0 H7.out.2.1.1).trans (H7.out.2.1.2 j hlt).2⟩
        obtain ⟨gl, capl, el, _, hgl, ca, cn⟩ := (H7.out.1.e.gr0 gj).at' hlt
        injection el with el1 _ el2
        subst el1
        obtain ⟨sj, hsj⟩ : ∃ s, s = L2[j].1 := ⟨_, rfl⟩
        obtain ⟨vj, hvj⟩ : ∃ s, s = L2[j].2 := ⟨_, rfl⟩
        rw [← hsj, ← hvj] at hx
        rw [← hsj] at ca
        rw [← hvj] at cn
        clear hsj hvj el2
        have HX := Lib.hid (show Gr [] w7 (wr.alloc (Obj.cells #[.string sj, .int .i64 (vj : Int)] 44)) ∧ Holds (wr.alloc (Obj.cells #[.string sj, .int .i64 (vj : Int)] 44)) wr.heap.size #[.string sj, .int .i64 (vj : Int)] 44 ∧ (wr.alloc (Obj.cells #[.string sj, .int .i64 (vj : Int)] 44)).cell? ⟨gl, j * 2, none⟩ = some (.string sj) ∧ (wr.alloc (Obj.cells #[.string sj, .int .i64 (vj : Int)] 44)).cell? ⟨gl, j * 2 + 1, none⟩ = some (.int .i64 (vj : Int)) from by
          have ga := (Gr.refl [] wr).alloc (Obj.cells #[.string sj, .int .i64 (vj : Int)] 44)
          exact ⟨gj.next0 ga, Holds.new wr _ _, (ga.cell0 hgl).trans ca, (ga.cell0 hgl).trans cn⟩)
        clear ca cn hgl
        go_upto_region 7 with fail
        generalize (wr.alloc (Obj.cells #[.string sj, .int .i64 (vj : Int)] 44)) = wc at *
        clear hx gj
        generalize wr.heap.size = eb at *
        have k0 := kp_cell (HX.out.2.1.cell 0)
        have k1 := kp_cell (HX.out.2.1.cell 1)
        have k2 := kp_cell HX.out.2.2.1
        have k3 := kp_cell HX.out.2.2.2
        have k4 := kp_cell ((H7.out.1.bx.gr0 HX.out.1).cell 0)
        have hne := kp_ne wc
        refine wp_region_kp (by kernel_rfl) (by kernel_rfl) ?_
        repeat (go_big_quiet_step (fail))
        with_reducible refine wpQuiet_nil ?_
        rintro _ ⟨y, rfl⟩
        have HG2 := Lib.hid (HX.out.1.next0 (Gr.ofBelow (cs := []) y.h))
        clear k0 k1 k2 k3 k4 hne HX
        generalize y.w = w8 at *
        clear y
        go_wp2_with fail
        go_roundw
        case rel => exact ⟨j + 1, by omega, by go_num, HG2.out⟩
        case measure => simp [intOf]; omega
    · obtain rfl : j = L2.length := by omega
      have H8 := Lib.hid (show Gr [] w wr ∧ IntAt wr gp A.nb (fun t => cntB A.nb t N) ∧ IntAt wr gq A.nb (fun t => cntB A.nb t N) from ⟨H7.out.1.gr.next0 gj, H7.out.2.2.1.2.gr0 H7.out.2.2.1.1 gj, H7.out.2.2.2.2.gr0 H7.out.2.2.2.1 gj⟩)
      clear H7 hlt hj gj
      go_upto_region 11 with fail
      go_loopw [68] (fun z wx => ∃ j : Nat, j ≤ A.nb ∧ z = .int .i64 (j : Int) ∧ Gr [] wr wx) (fun z _ => A.nb - (intOf z).toNat)
      case atStart => exact ⟨0, by omega, rfl, Gr.refl _ _⟩
      case round =>
        obtain ⟨j, hj, rfl, gj⟩ := hrel
        by_cases hlt : j < A.nb
        · as_aux_lemma =>
            have jb : (j : Int) < (A.nb : Int) := by omega
            have jb0 : (0 : Int) ≤ (j : Int) := by omega
            have hx := (gj.cell0 (World.block_lt_of_cell? _ _ (H8.out.2.1 j hlt))).trans (H8.out.2.1 j hlt)
            have hy := (gj.cell0 (World.block_lt_of_cell? _ _ (H8.out.2.2 j hlt))).trans (H8.out.2.2 j hlt)
            dsimp only at hx hy
            obtain ⟨cj, hcj⟩ : ∃ s, s = cntB A.nb j N := ⟨_, rfl⟩
            rw [← hcj] at hx hy
            clear hcj
            go_upto_region 13 with fail
            have k0 := kp_cell hx
            have k2 := kp_cell hy
            have hne := kp_ne wr
            have HGj := Lib.hid gj
            clear hx hy gj
            refine wp_region_kp (by kernel_rfl) (by kernel_rfl) ?_
            repeat (go_big_quiet_step (fail))
            with_reducible refine wpQuiet_nil ?_
            rintro _ ⟨y, rfl⟩
            have HG2 := Lib.hid (HGj.out.next0 (Gr.ofBelow (cs := []) y.h))
            clear k0 k2 hne HGj
            generalize y.w = w8 at *
            clear y
            go_wp2_with fail
            go_roundw
            case rel => exact ⟨j + 1, by omega, by go_num, HG2.out⟩
            case measure => simp [intOf]; omega
        · obtain rfl : j = A.nb := by omega
          go_wp2_with fail
          go_ret
          exact ⟨rfl, H8.out.1.next0 gj⟩
end Go.Proofs.YtefiapmgdjlnnaaDoor

/-
  Slices of acts (two integers, a text) that come in as an argument of a law, opened.
-/
namespace Go.Proofs.YtefiapmgdjlnnaaDoor
open Go.ChangeShapes Go.WideShapes Go.ChangeAt Go.RowKit
set_option linter.unusedVariables false

structure ActD where
  d : Int
  z : Int
  s : ByteArray
def ActDIs (x : ActD) : Prop :=
  (-9223372036854775808 ≤ x.d ∧ x.d ≤ 9223372036854775807) ∧ (-9223372036854775808 ≤ x.z ∧ x.z ≤ 9223372036854775807) ∧ x.s.size ≤ maxLen
def ActDAt (w : World) (b o : Nat) (x : ActD) : Prop :=
  w.cell? ⟨b, o, none⟩ = some (.int .i64 x.d) ∧ w.cell? ⟨b, o + 1, none⟩ = some (.int .i64 x.z) ∧ w.cell? ⟨b, o + 2, none⟩ = some (.string x.s)
def SlD (w : World) (v : Value) : Prop :=
  (∃ ao cap, v = .slice ao 0 cap ∧ (ao = none → cap = 0) ∧ cap ≤ maxLen) ∨
  ∃ b off n cap, ∃ xs : Nat → ActD, v = .slice (some ⟨b, off, none⟩) n cap ∧ 0 < n ∧ n ≤ cap ∧ cap ≤ maxLen ∧ b < w.heap.size ∧ ∀ i, i < n → ActDIs (xs i) ∧ ActDAt w b (off + i * 3) (xs i)

theorem open_actd1 {H : Type} {enc : TypeId × Value → H} {P : Program} {w : World} {base : Nat} {held : Bool} {e : TypeId} {fs : Array Field} {f0 f1 f2 : Field} {cs : List Value} {x : DataW H × List MemPlace} {fuel : Nat}
    (he : P.underlying e = some (.struct fs)) (h0 : fs[0]? = some f0) (h1 : fs[1]? = some f1) (h2 : fs[2]? = some f2)
    (o0 : f0.offset = 0) (o1 : f1.offset = 1) (o2 : f2.offset = 2)
    (t0 : P.underlying f0.type = some (.int .i64)) (t1 : P.underlying f1.type = some (.int .i64)) (t2 : P.underlying f2.type = some .string)
    (c0 : P.cellsOf f0.type = 1) (c1 : P.cellsOf f1.type = 1) (c2 : P.cellsOf f2.type = 1)
    (h : DataW.trod enc P w base (fun _ => true) held fuel e cs = some x) :
    ∃ y : ActD, ActDIs y ∧ cs[0]? = some (.int .i64 y.d) ∧ cs[1]? = some (.int .i64 y.z) ∧ cs[2]? = some (.string y.s) := by
  obtain ⟨ys, n, _, _, hl, hy, hi⟩ := DataW.trod_struct he h
  have hsz : 2 < fs.size := (Array.getElem?_eq_some_iff.1 h2).1
  have key : ∀ (i : Nat) (v : Value), (cs.drop i).take 1 = [v] → cs[i]? = some v := fun i v hd => by
    have : (List.take 1 (List.drop i cs))[0]? = some v := by rw [hd]; rfl
    rw [List.getElem?_take_of_lt (by omega), List.getElem?_drop, Nat.add_zero] at this
    exact this
  have r0 := hi 0 f0 h0
  have r1 := hi 1 f1 h1
  have r2 := hi 2 f2 h2
  rw [o0, c0, List.getElem?_eq_getElem (by omega)] at r0
  rw [o1, c1, List.getElem?_eq_getElem (by omega)] at r1
  rw [o2, c2, List.getElem?_eq_getElem (by omega)] at r2
  obtain ⟨d, hd, _, wd⟩ := DataW.trod_int t0 r0
  obtain ⟨z, hz, _, wz⟩ := DataW.trod_int t1 r1
  obtain ⟨s, hs, _, ws⟩ := DataW.trod_string t2 r2
  exact ⟨⟨d, z, s⟩, ⟨bounds_i64 wd, bounds_i64 wz, ws⟩, key 0 _ hd, key 1 _ hz, key 2 _ hs⟩

theorem open_actds {H : Type} {enc : TypeId × Value → H} {P : Program} {w : World} {base : Nat} {held : Bool} {t e : TypeId} {fs : Array Field} {f0 f1 f2 : Field} {v : Value} {b0 : Nat} {d : DataW H} {p : List MemPlace}
    (ht : P.underlying t = some (.slice e)) (he : P.underlying e = some (.struct fs)) (h0 : fs[0]? = some f0) (h1 : fs[1]? = some f1) (h2 : fs[2]? = some f2)
    (o0 : f0.offset = 0) (o1 : f1.offset = 1) (o2 : f2.offset = 2)
    (t0 : P.underlying f0.type = some (.int .i64)) (t1 : P.underlying f1.type = some (.int .i64)) (t2 : P.underlying f2.type = some .string)
    (c0 : P.cellsOf f0.type = 1) (c1 : P.cellsOf f1.type = 1) (c2 : P.cellsOf f2.type = 1) (ce : P.cellsOf e = 3)
    (hv : Value.okWide P w .any b0 t v) (h : DataW.Trod enc P w base (fun _ => true) held t v d p) : SlD w v := by
  obtain ⟨a0, len, cap, rfl⟩ := okWide_slice ht hv
  obtain ⟨fuel, hf⟩ := h
  rcases DataW.trod_slice ht hf with ⟨hcs, _⟩ | ⟨a, len', cap', elems, rest, n, _, hcs, _, hb, hl, hm, hlen, hel, _, _⟩
  · simp [Value.cells] at hcs
    obtain ⟨rfl, rfl, rfl⟩ := hcs
    exact .inl ⟨none, 0, rfl, fun _ => rfl, Nat.zero_le _⟩
  · simp [Value.cells] at hcs
    obtain ⟨rfl, rfl, rfl⟩ := hcs
    by_cases hz : len = 0
    · subst hz
      exact .inl ⟨some a, cap, rfl, (fun e => by cases e), hm⟩
    · have each : ∀ i, i < len → ∃ y : ActD, ActDIs y ∧ w.cell? ((a.add (i * 3)).add 0) = some (.int .i64 y.d) ∧ w.cell? ((a.add (i * 3)).add 1) = some (.int .i64 y.z) ∧ w.cell? ((a.add (i * 3)).add 2) = some (.string y.s) := by
        intro i hi
        have q := hel i hi
        rw [ce, List.getElem?_eq_getElem (by omega), Option.bind_eq_some_iff] at q
        obtain ⟨cs', hc', hy⟩ := q
        obtain ⟨_, _, hc2⟩ := World.cells?_some hc'
        obtain ⟨y, hy1, e0, e1, e2⟩ := open_actd1 he h0 h1 h2 o0 o1 o2 t0 t1 t2 c0 c1 c2 hy
        exact ⟨y, hy1, (hc2 0 (by omega)).trans e0, (hc2 1 (by omega)).trans e1, (hc2 2 (by omega)).trans e2⟩
      obtain ⟨b, off, spot⟩ := a
      have hspot : spot = none := by
        obtain ⟨y, _, e0, _⟩ := each 0 (by omega)
        simpa [Addr.add] using World.cell?_spot e0
      subst hspot
      have hcl : ∀ i k, ((⟨b, off, none⟩ : Addr).add (i * 3)).add k = ⟨b, off + i * 3 + k, none⟩ := fun i k => by rw [add_plain, add_plain]
      have each2 : ∀ i, i < len → ∃ y : ActD, ActDIs y ∧ ActDAt w b (off + i * 3) y := fun i hi => by
        obtain ⟨y, y1, e0, e1, e2⟩ := each i hi
        rw [hcl] at e0 e1 e2
        exact ⟨y, y1, e0, e1, e2⟩
      refine .inr ⟨b, off, len, cap, fun i => if hi : i < len then Classical.choose (each2 i hi) else ⟨0, 0, ⟨#[]⟩⟩, rfl, by omega, hl, hm, ?_, fun i hi => ?_⟩
      · obtain ⟨y, _, e0, _⟩ := each2 0 (by omega)
        exact block_lt_of_cell e0
      · dsimp only
        rw [dif_pos hi]
        exact Classical.choose_spec (each2 i hi)
end Go.Proofs.YtefiapmgdjlnnaaDoor
