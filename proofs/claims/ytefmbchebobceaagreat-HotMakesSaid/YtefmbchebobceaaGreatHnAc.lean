/-
  HnAc: HtZ, HtZa, FrameN, FrameP, FrameV, HtZb.
-/
import Derived.Test.YtefmbchebobceaaGreatHkAa
import Derived.Test.YtefmbchebobceaaGreatHkAb
import Derived.Test.YtefmbchebobceaaGreatHkAc
import Derived.Test.YtefmbchebobceaaGreatHkAd
import Derived.Test.YtefmbchebobceaaGreatHkAe
import Derived.Test.YtefmbchebobceaaGreatHkAf
import Derived.Test.YtefmbchebobceaaGreatHkAg
import Derived.Test.YtefmbchebobceaaGreatHkAh
import Derived.Test.YtefmbchebobceaaGreatHkAi
import Derived.Test.YtefmbchebobceaaGreatHkAj
import Derived.Test.YtefmbchebobceaaGreatHkAk
import Derived.Test.YtefmbchebobceaaGreatHkAl
import Derived.Test.YtefmbchebobceaaGreatHkAm
import Derived.Test.YtefmbchebobceaaGreatHkAn
import Derived.Test.YtefmbchebobceaaGreatHkAo
import Derived.Test.YtefmbchebobceaaGreatHkAp
import Derived.Test.YtefmbchebobceaaGreatHkAq
import Derived.Test.YtefmbchebobceaaGreatHkAr
import Derived.Test.YtefmbchebobceaaGreatHkAs
import Derived.Test.YtefmbchebobceaaGreatHkAt
import Derived.Test.YtefmbchebobceaaGreatHkAu
import Derived.Test.YtefmbchebobceaaGreatHkAv
import Derived.Test.YtefmbchebobceaaGreatHkAw
import Derived.Test.YtefmbchebobceaaGreatHkAx
import Derived.Test.YtefmbchebobceaaGreatHkAy
import Derived.Test.YtefmbchebobceaaGreatHkAz
import Derived.Test.YtefmbchebobceaaGreatHkBa
import Derived.Test.YtefmbchebobceaaGreatHkBb
import Derived.Test.YtefmbchebobceaaGreatHkBc
import Derived.Test.YtefmbchebobceaaGreatHkBd
import Derived.Test.YtefmbchebobceaaGreatHkBe
import Derived.Test.YtefmbchebobceaaGreatHkBf
import Derived.Test.YtefmbchebobceaaGreatHkBg
import Derived.Test.YtefmbchebobceaaGreatHkBh
import Derived.Test.YtefmbchebobceaaGreatHkBi
import Derived.Test.YtefmbchebobceaaGreatHkBj
import Derived.Test.YtefmbchebobceaaGreatHkBk
import Derived.Test.YtefmbchebobceaaGreatHnAb
import Derived.Test.YtefmbchebobceaaGreatHnAa
import Derived.Test.YtefmbchebobceaaGreatRows
import Derived.WalkKit
import Derived.ProofKit
import Derived.OpenShut
import Derived.SizedLaws
import Derived.Deep.Grids

set_option linter.unusedVariables false

/-
  HotMakes: Make on a device that it refuses.
-/
namespace Go.Proofs.YtefmbchebobceaaGreat
open Go.RowKit
set_option linter.unusedVariables false

set_option maxRecDepth 100000 in
set_option maxHeartbeats 8000000 in
theorem hmake_zero (C : CfgZ) (hC : wfC C) (hp : pgC C = 0) (b : Nat) (w : World) : Calls Tryz.prog 14 #[.pointer (some ⟨b, 0, none⟩), cfgV C] w fun e w' => e = .returned (.int .i64 2) ∧ Gr [] w w' := by
  have HPl := Lib.hid (fun W => plan_any C hC W)
  obtain ⟨T, hT⟩ : ∃ T, T = tbC C := ⟨_, rfl⟩
  obtain ⟨fz, hfz⟩ : ∃ fz, fz = freeC C := ⟨_, rfl⟩
  rw [hp, ← hT, ← hfz] at HPl
  have g0 := (Gr.refl [] w).alloc (Obj.cells (cfgRow C) 39)
  have hh0 := Holds.new w (cfgRow C) 39
  have H1 := Lib.hid (And.intro g0 hh0)
  unfold cfgV at HPl ⊢
  unfold cfgRow at H1
  clear hp hT hfz g0 hh0 hC
  go_enter Tryz.func14, Tryz.ntmps14
  go_upto_region 1 with fail
  generalize (w.alloc (Obj.cells #[.int .i64 C.r, .int .i64 C.l, .int .i64 C.s, .int .i64 C.psi, .int .u64 (C.key : Int)] 39)) = w1 at *
  obtain ⟨cb, hcb⟩ : ∃ b, w.heap.size = b := ⟨_, rfl⟩
  rw [hcb] at H1 ⊢
  clear hcb
  obtain ⟨c0, c1, c2, c3, c4⟩ := (show w1.cell? ⟨cb, 0, none⟩ = some (.int .i64 C.r) ∧ w1.cell? ⟨cb, 1, none⟩ = some (.int .i64 C.l) ∧ w1.cell? ⟨cb, 2, none⟩ = some (.int .i64 C.s) ∧ w1.cell? ⟨cb, 3, none⟩ = some (.int .i64 C.psi) ∧ w1.cell? ⟨cb, 4, none⟩ = some (.int .u64 (C.key : Int)) from ⟨H1.out.2.cell 0, H1.out.2.cell 1, H1.out.2.cell 2, H1.out.2.cell 3, H1.out.2.cell 4⟩)
  go_wp2_with fail
  refine (HPl.out _).mono ?_
  rintro e w2 ⟨rfl, g2⟩
  have ga := (H1.out.1.trans g2).alloc (Obj.cells #[.int .i64 0, .int .i64 (T : Int), .int .i64 fz] 104)
  have hy := Holds.new w2 #[.int .i64 0, .int .i64 (T : Int), .int .i64 fz] 104
  have H3 := Lib.hid (And.intro ga hy)
  clear g2 ga hy HPl c0 c1 c2 c3 c4 H1
  go_upto_region 4 with fail
  generalize (w2.alloc (Obj.cells #[.int .i64 0, .int .i64 (T : Int), .int .i64 fz] 104)) = w3 at *
  obtain ⟨yb, hyb⟩ : ∃ b, w2.heap.size = b := ⟨_, rfl⟩
  rw [hyb] at H3 ⊢
  clear hyb
  have d0 := H3.out.2.cell 0
  go_wp2_with fail
  go_ret
  exact ⟨rfl, H3.out.1⟩
set_option maxRecDepth 100000 in
set_option maxHeartbeats 8000000 in
theorem hmake_err {w : World} {a : DevA} {D : DevS} (h : DevIs w a D) (C : CfgZ) (hC : wfC C) (hp : 0 < pgC C) (he : checkC C (D.n : Int) ≠ 0) : Calls Tryz.prog 14 #[.pointer (some ⟨a.bd, 0, none⟩), cfgV C] w fun e w' => e = .returned (.int .i64 (checkC C (D.n : Int))) ∧ Gr [] w w' := by
  have HFm := Lib.hid (fun W (h : DevIs W a D) => show Calls Tryz.prog 45 #[.pointer (some ⟨a.bd, 0, none⟩), .agg #[.int .i64 C.r, .int .i64 C.l, .int .i64 C.s, .int .i64 C.psi, .int .u64 (C.key : Int)]] W _ from fmake_err h C hC he)
  obtain ⟨ck, hck⟩ : ∃ ck, ck = checkC C (D.n : Int) := ⟨_, rfl⟩
  rw [← hck] at he HFm ⊢
  have hb : (ck == 0) = false := by simpa using he
  obtain ⟨G, hG⟩ : ∃ G, G = pgC C := ⟨_, rfl⟩
  have hG0 : ¬ G = 0 := by omega
  have hG0b : ((G : Int) == 0) = false := by simp; omega
  have HPl := Lib.hid (fun W => plan_any C hC W)
  obtain ⟨T, hT⟩ : ∃ T, T = tbC C := ⟨_, rfl⟩
  obtain ⟨fz, hfz⟩ : ∃ fz, fz = freeC C := ⟨_, rfl⟩
  rw [← hG, ← hT, ← hfz] at HPl
  have g0 := (Gr.refl [] w).alloc (Obj.cells (cfgRow C) 39)
  have hh0 := Holds.new w (cfgRow C) 39
  have H1 := Lib.hid (And.intro g0 hh0)
  have HD := Lib.hid (h.gr0 g0)
  unfold cfgV at HPl ⊢
  unfold cfgRow at H1 HD
  clear h hck hG hp hT hfz g0 hh0 hC
  go_enter Tryz.func14, Tryz.ntmps14
  go_upto_region 1 with fail
  generalize (w.alloc (Obj.cells #[.int .i64 C.r, .int .i64 C.l, .int .i64 C.s, .int .i64 C.psi, .int .u64 (C.key : Int)] 39)) = w1 at *
  obtain ⟨cb, hcb⟩ : ∃ b, w.heap.size = b := ⟨_, rfl⟩
  rw [hcb] at H1 ⊢
  clear hcb
  obtain ⟨c0, c1, c2, c3, c4⟩ := (show w1.cell? ⟨cb, 0, none⟩ = some (.int .i64 C.r) ∧ w1.cell? ⟨cb, 1, none⟩ = some (.int .i64 C.l) ∧ w1.cell? ⟨cb, 2, none⟩ = some (.int .i64 C.s) ∧ w1.cell? ⟨cb, 3, none⟩ = some (.int .i64 C.psi) ∧ w1.cell? ⟨cb, 4, none⟩ = some (.int .u64 (C.key : Int)) from ⟨H1.out.2.cell 0, H1.out.2.cell 1, H1.out.2.cell 2, H1.out.2.cell 3, H1.out.2.cell 4⟩)
  go_wp2_with fail
  refine (HPl.out _).mono ?_
  rintro e w2 ⟨rfl, g2⟩
  have ga := (H1.out.1.trans g2).alloc (Obj.cells #[.int .i64 (G : Int), .int .i64 (T : Int), .int .i64 fz] 104)
  have hy := Holds.new w2 #[.int .i64 (G : Int), .int .i64 (T : Int), .int .i64 fz] 104
  have H3 := Lib.hid (And.intro ga hy)
  have gc := g2.alloc (Obj.cells #[.int .i64 (G : Int), .int .i64 (T : Int), .int .i64 fz] 104)
  have H4 := Lib.hid (And.intro (HD.out.gr0 gc) (H1.out.2.gr0 gc))
  clear gc HD
  clear g2 ga hy HPl c0 c1 c2 c3 c4 H1
  go_upto_region 4 with fail
  generalize (w2.alloc (Obj.cells #[.int .i64 (G : Int), .int .i64 (T : Int), .int .i64 fz] 104)) = w3 at *
  obtain ⟨yb, hyb⟩ : ∃ b, w2.heap.size = b := ⟨_, rfl⟩
  rw [hyb] at H3 ⊢
  clear hyb
  have d0 := H3.out.2.cell 0
  obtain ⟨c0, c1, c2, c3, c4⟩ := (show w3.cell? ⟨cb, 0, none⟩ = some (.int .i64 C.r) ∧ w3.cell? ⟨cb, 1, none⟩ = some (.int .i64 C.l) ∧ w3.cell? ⟨cb, 2, none⟩ = some (.int .i64 C.s) ∧ w3.cell? ⟨cb, 3, none⟩ = some (.int .i64 C.psi) ∧ w3.cell? ⟨cb, 4, none⟩ = some (.int .u64 (C.key : Int)) from ⟨H4.out.2.cell 0, H4.out.2.cell 1, H4.out.2.cell 2, H4.out.2.cell 3, H4.out.2.cell 4⟩)
  go_wp2_with fail
  refine (HFm.out _ H4.out.1).mono ?_
  rintro e w4 ⟨rfl, g4⟩
  have HZ := Lib.hid (H3.out.1.trans g4)
  clear g4
  go_wp2_with fail
  go_ret
  exact ⟨rfl, HZ.out⟩
end Go.Proofs.YtefmbchebobceaaGreat

/-
  HotMakes: Open on a device that holds nothing.
-/
namespace Go.Proofs.YtefmbchebobceaaGreat
open Go.RowKit
set_option linter.unusedVariables false

theorem head_word10 (C : CfgZ) : wdL (headL C) 0 ≠ 0 := by
  have e : ((headL C).drop (8 * 0)).take 8 = magL := by
    unfold headL preL
    rw [Nat.mul_zero, List.drop_zero, List.append_assoc]
    exact List.take_left' rfl
  unfold wdL
  rw [e]
  decide +kernel
theorem new_form10 (n : Nat) : headS (parZ (⟨(getT (newD n) 0).toArray⟩ : ByteArray).data.toList) ≠ (⟨(getT (newD n) 0).toArray⟩ : ByteArray) := by
  intro q
  have hw := line_words (newD_gud n).2.1 (fun _ => by show 0 < _; omega) (l := 0) 0 (by omega)
  rw [← q] at hw
  exact head_word10 _ hw

theorem hopen_blank {w : World} {a : DevA} {n : Nat} (h : DevIs w a (newD n)) (lim : Int) (hl : 1 ≤ lim) : Calls Tryz.prog 17 #[.pointer (some ⟨a.bd, 0, none⟩), .int .i64 lim] w fun e w' => e = .returned (.tuple #[.pointer none, .int .i64 4]) ∧ Gr [] w w' := by
  have HOp := Lib.hid (fopen_form (S := ⟨(getT (newD n) 0).toArray⟩) h rfl rfl (.inl (new_form10 n)))
  have hl1 : ¬ lim < 1 := by omega
  clear h
  go_enter Tryz.func17, Tryz.ntmps17
  go_wp2_with fail
  refine (HOp.out).mono ?_
  rintro e w2 ⟨rfl, g2⟩
  have HG := Lib.hid g2
  clear g2
  go_wp2_with fail
  go_ret2
  exact ⟨rfl, HG.out⟩
/-- Where pages are, the device must be larger than eight lines. -/
theorem pg_large {C : CfgZ} (hp : 0 < pgC C) : checkC C 8 = 3 := by
  have hs : ¬ sizeC C = 0 := by
    intro e
    unfold pgC at hp
    rw [if_pos (.inl e)] at hp
    omega
  have h : 1 ≤ C.r ∧ C.r ≤ 16 ∧ okP C := by
    refine Decidable.byContradiction fun h => hs ?_
    unfold sizeC
    rw [if_neg h]
  have h8 : C.l % 8 = 0 := by
    refine Decidable.byContradiction fun e => ?_
    unfold pgC at hp
    rw [if_pos (.inr e)] at hp
    omega
  obtain ⟨e1, e2, e3⟩ := check9_ok (n := 8) h
  obtain ⟨_, hr⟩ := regS_ok h.2.2
  have ok := h.2.2
  unfold okP at ok
  have b : 1 * 10 ≤ C.r * regS C := Int.mul_le_mul (by omega) (by omega) (by omega) (by omega)
  rw [e3, if_pos (by omega)]
end Go.Proofs.YtefmbchebobceaaGreat

/-
  Slices of acts (three integers, a word, a text, a list of bools) that come in as an argument of a law, opened.
-/
namespace Go.Proofs.YtefmbchebobceaaGreat
open Go.ChangeShapes Go.WideShapes Go.ChangeAt Go.RowKit
set_option linter.unusedVariables false

def I64 (x : Int) : Prop := -9223372036854775808 ≤ x ∧ x ≤ 9223372036854775807
end Go.Proofs.YtefmbchebobceaaGreat

/-
  A config (four integers, a word) that comes in as an argument of a law, opened.
-/
namespace Go.Proofs.YtefmbchebobceaaGreat
open Go.ChangeShapes Go.WideShapes Go.ChangeAt Go.RowKit
set_option linter.unusedVariables false

theorem okWide_strP {P : Program} {w : World} {r : Reach} {base : Nat} {t : TypeId} {v : Value} {fs : Array Field} (ht : P.underlying t = some (.struct fs)) (h : Value.okWide P w r base t v) : ∃ cs, v = .agg cs ∧ cs.size = P.cellsOf t := by
  simp only [Value.okWide, ht] at h
  obtain ⟨cs, h1, h2, _⟩ := h
  exact ⟨cs, h1, h2⟩
end Go.Proofs.YtefmbchebobceaaGreat

/-
  Layer 10: a config (five integers, a word) and slices of acts (four integers, a word, a text, a list of bools) that come in as arguments of a law, opened.
-/
namespace Go.Proofs.YtefmbchebobceaaGreat
open Go.ChangeShapes Go.WideShapes Go.ChangeAt Go.RowKit
set_option linter.unusedVariables false

def CfgB6 (x0 x1 x2 x3 x4 : Int) (x5 : Nat) : Prop := I64 x0 ∧ I64 x1 ∧ I64 x2 ∧ I64 x3 ∧ I64 x4 ∧ x5 < 18446744073709551616
theorem open_cfg6 {H : Type} {enc : TypeId × Value → H} {P : Program} {w : World} {base : Nat} {held : Bool} {T : TypeId} {fs : Array Field} {f0 f1 f2 f3 f4 f5 : Field} {v : Value} {b0 : Nat} {d : DataW H} {p : List MemPlace}
    (he : P.underlying T = some (.struct fs)) (h0 : fs[0]? = some f0) (h1 : fs[1]? = some f1) (h2 : fs[2]? = some f2) (h3 : fs[3]? = some f3) (h4 : fs[4]? = some f4) (h5 : fs[5]? = some f5)
    (o0 : f0.offset = 0) (o1 : f1.offset = 1) (o2 : f2.offset = 2) (o3 : f3.offset = 3) (o4 : f4.offset = 4) (o5 : f5.offset = 5)
    (t0 : P.underlying f0.type = some (.int .i64)) (t1 : P.underlying f1.type = some (.int .i64)) (t2 : P.underlying f2.type = some (.int .i64)) (t3 : P.underlying f3.type = some (.int .i64)) (t4 : P.underlying f4.type = some (.int .i64)) (t5 : P.underlying f5.type = some (.int .u64))
    (c0 : P.cellsOf f0.type = 1) (c1 : P.cellsOf f1.type = 1) (c2 : P.cellsOf f2.type = 1) (c3 : P.cellsOf f3.type = 1) (c4 : P.cellsOf f4.type = 1) (c5 : P.cellsOf f5.type = 1) (cT : P.cellsOf T = 6)
    (hv : Value.okWide P w .any b0 T v) (h : DataW.Trod enc P w base (fun _ => true) held T v d p) : ∃ (x0 x1 x2 x3 x4 : Int) (x5 : Nat), v = .agg #[.int .i64 x0, .int .i64 x1, .int .i64 x2, .int .i64 x3, .int .i64 x4, .int .u64 (x5 : Int)] ∧ CfgB6 x0 x1 x2 x3 x4 x5 := by
  obtain ⟨cs, rfl, hsz⟩ := okWide_strP he hv
  obtain ⟨fuel, hf⟩ := h
  have hf' : DataW.trod enc P w base (fun _ => true) held fuel T cs.toList = some (d, p) := hf
  obtain ⟨ys, n, _, _, hl, hy, hi⟩ := DataW.trod_struct he hf'
  have hsf : 5 < fs.size := (Array.getElem?_eq_some_iff.1 h5).1
  have key : ∀ (i : Nat) (v : Value), (cs.toList.drop i).take 1 = [v] → cs.toList[i]? = some v := fun i v hd => by
    have : (List.take 1 (List.drop i cs.toList))[0]? = some v := by rw [hd]; rfl
    rw [List.getElem?_take_of_lt (by omega), List.getElem?_drop, Nat.add_zero] at this
    exact this
  have r0 := hi 0 f0 h0
  have r1 := hi 1 f1 h1
  have r2 := hi 2 f2 h2
  have r3 := hi 3 f3 h3
  have r4 := hi 4 f4 h4
  have r5 := hi 5 f5 h5
  rw [o0, c0, List.getElem?_eq_getElem (by omega)] at r0
  rw [o1, c1, List.getElem?_eq_getElem (by omega)] at r1
  rw [o2, c2, List.getElem?_eq_getElem (by omega)] at r2
  rw [o3, c3, List.getElem?_eq_getElem (by omega)] at r3
  rw [o4, c4, List.getElem?_eq_getElem (by omega)] at r4
  rw [o5, c5, List.getElem?_eq_getElem (by omega)] at r5
  obtain ⟨x0, e0, _, w0⟩ := DataW.trod_int t0 r0
  obtain ⟨x1, e1, _, w1⟩ := DataW.trod_int t1 r1
  obtain ⟨x2, e2, _, w2⟩ := DataW.trod_int t2 r2
  obtain ⟨x3, e3, _, w3⟩ := DataW.trod_int t3 r3
  obtain ⟨x4, e4, _, w4⟩ := DataW.trod_int t4 r4
  obtain ⟨x5, e5, _, w5⟩ := DataW.trod_int t5 r5
  obtain ⟨u, rfl, hu⟩ := natU64 w5
  refine ⟨x0, x1, x2, x3, x4, u, ?_, bounds_i64 w0, bounds_i64 w1, bounds_i64 w2, bounds_i64 w3, bounds_i64 w4, hu⟩
  have k0 := key 0 _ e0
  have k1 := key 1 _ e1
  have k2 := key 2 _ e2
  have k3 := key 3 _ e3
  have k4 := key 4 _ e4
  have k5 := key 5 _ e5
  have hlen : cs.toList.length = 6 := by simpa [cT] using hsz
  have : cs.toList = [.int .i64 x0, .int .i64 x1, .int .i64 x2, .int .i64 x3, .int .i64 x4, .int .u64 (u : Int)] := by
    apply List.ext_getElem?
    intro i
    match i with
    | 0 => rw [k0]; rfl
    | 1 => rw [k1]; rfl
    | 2 => rw [k2]; rfl
    | 3 => rw [k3]; rfl
    | 4 => rw [k4]; rfl
    | 5 => rw [k5]; rfl
    | n + 6 => rw [List.getElem?_eq_none (by omega), List.getElem?_eq_none (by simp)]
  congr 1
  exact Array.ext' this

end Go.Proofs.YtefmbchebobceaaGreat

/-
  HotMakes' walk.
-/
namespace Go.Proofs.YtefmbchebobceaaGreat
open Go.RowKit
set_option linter.unusedVariables false

structure Mk10 (w : World) (pb sb : Nat) (P Q : CfgZ) (x4 : Int) (wr : World) : Prop where
  gr : Gr [] w wr
  bx : Holds wr pb #[.int .i64 P.r, .int .i64 P.l, .int .i64 P.s, .int .i64 P.psi, .int .i64 x4, .int .u64 (P.key : Int)] 24
  sl : Holds wr sb #[.int .i64 P.r, .int .i64 P.l, .int .i64 P.s, .int .i64 P.psi, .int .u64 (P.key : Int), .int .i64 Q.r, .int .i64 Q.l, .int .i64 Q.s, .int .i64 Q.psi, .int .u64 (Q.key : Int)] 27
theorem Mk10.next0 {w wr w2 : World} {pb sb : Nat} {P Q : CfgZ} {x4 : Int} (h : Mk10 w pb sb P Q x4 wr) (g : Gr [] wr w2) : Mk10 w pb sb P Q x4 w2 := ⟨h.gr.trans g, h.bx.gr0 g, h.sl.gr0 g⟩
theorem Mk10.at {w wr : World} {pb sb : Nat} {P Q : CfgZ} {x4 : Int} (h : Mk10 w pb sb P Q x4 wr) : (wr.cell? ⟨sb, 0, none⟩ = some (.int .i64 P.r) ∧ wr.cell? ⟨sb, 1, none⟩ = some (.int .i64 P.l) ∧ wr.cell? ⟨sb, 2, none⟩ = some (.int .i64 P.s) ∧ wr.cell? ⟨sb, 3, none⟩ = some (.int .i64 P.psi) ∧ wr.cell? ⟨sb, 4, none⟩ = some (.int .u64 (P.key : Int))) ∧ (wr.cell? ⟨sb, 5, none⟩ = some (.int .i64 Q.r) ∧ wr.cell? ⟨sb, 6, none⟩ = some (.int .i64 Q.l) ∧ wr.cell? ⟨sb, 7, none⟩ = some (.int .i64 Q.s) ∧ wr.cell? ⟨sb, 8, none⟩ = some (.int .i64 Q.psi) ∧ wr.cell? ⟨sb, 9, none⟩ = some (.int .u64 (Q.key : Int))) :=
  ⟨⟨h.sl.cell 0, h.sl.cell 1, h.sl.cell 2, h.sl.cell 3, h.sl.cell 4⟩, ⟨h.sl.cell 5, h.sl.cell 6, h.sl.cell 7, h.sl.cell 8, h.sl.cell 9⟩⟩
theorem cfv10 {W : World} {b : Nat} {x0 x1 x2 x3 x4 : Value} {T : TypeId} (h : Holds W b #[x0, x1, x2, x3, x4] T) : W.cell? ⟨b, 0, none⟩ = some x0 ∧ W.cell? ⟨b, 1, none⟩ = some x1 ∧ W.cell? ⟨b, 2, none⟩ = some x2 ∧ W.cell? ⟨b, 3, none⟩ = some x3 ∧ W.cell? ⟨b, 4, none⟩ = some x4 := ⟨h.cell 0, h.cell 1, h.cell 2, h.cell 3, h.cell 4⟩
set_option maxRecDepth 100000 in
set_option maxHeartbeats 40000000 in
theorem hmakes_law (x0 x1 x2 x3 x4 : Int) (x5 : Nat) (g k : Int) {w : World} (hx : CfgB6 x0 x1 x2 x3 x4 x5) :
    Calls Tryz.prog 4 #[.agg #[.int .i64 x0, .int .i64 x1, .int .i64 x2, .int .i64 x3, .int .i64 x4, .int .u64 (x5 : Int)], .int .i64 g, .int .i64 k] w fun e w' => e = .returned (.bool true) ∧ Gr [] w w' := by
  obtain ⟨oC, p1, p2, z1, z2⟩ := smC_ok x0 x2 x3 x5 hx.2.2.2.2.2
  have HSm := Lib.hid (fun W => small10 x0 x1 x2 x3 x4 x5 W)
  have hl0 := mx_nonneg x4
  obtain ⟨l1, hl1⟩ : ∃ n : Int, smL x4 = n := ⟨_, rfl⟩
  have HL1 := Lib.hid (show 1 ≤ l1 by unfold smL at hl1; omega)
  obtain ⟨P, hP⟩ : ∃ C : CfgZ, C = ⟨x0, x1, x2, x3, x5⟩ := ⟨_, rfl⟩
  obtain ⟨Q, hQ⟩ : ∃ C, C = smC x0 x2 x3 x5 := ⟨_, rfl⟩
  have HW := Lib.hid (show wfC P ∧ wfC Q from ⟨by rw [hP]; exact ⟨hx.2.1, hx.1⟩, by rw [hQ]; exact oC.wf.1⟩)
  have HPe := Lib.hid (show x0 = P.r ∧ x1 = P.l ∧ x2 = P.s ∧ x3 = P.psi ∧ x5 = P.key by rw [hP]; exact ⟨rfl, rfl, rfl, rfl, rfl⟩)
  rw [← hQ, hl1] at HSm
  unfold cfgV at HSm
  have HG0 := Lib.hid ((Gr.refl [] w).alloc (Obj.cells #[.int .i64 x0, .int .i64 x1, .int .i64 x2, .int .i64 x3, .int .i64 x4, .int .u64 (x5 : Int)] 24))
  have HH := Lib.hid (Holds.new w #[.int .i64 x0, .int .i64 x1, .int .i64 x2, .int .i64 x3, .int .i64 x4, .int .u64 (x5 : Int)] 24)
  clear hx oC p1 p2 z1 z2 hl0 hl1 hP hQ
  go_enter Tryz.func4, Tryz.ntmps4
  go_upto_region 1 with fail
  generalize (w.alloc (Obj.cells #[.int .i64 x0, .int .i64 x1, .int .i64 x2, .int .i64 x3, .int .i64 x4, .int .u64 (x5 : Int)] 24)) = w1 at *
  obtain ⟨pb, hpb⟩ : ∃ pb, w.heap.size = pb := ⟨_, rfl⟩
  have HPB := Lib.hid hpb
  rw [hpb] at HH ⊢
  clear hpb
  have c0 := HH.out.cell 0
  have c1 := HH.out.cell 1
  have c2 := HH.out.cell 2
  have c3 := HH.out.cell 3
  have c4 := HH.out.cell 4
  have c5 := HH.out.cell 5
  go_upto_region 2 with fail
  obtain ⟨q0, q1, q2, q3, q5⟩ := HPe.out
  have ga := (Gr.refl [] w1).alloc (Obj.cells #[.int .i64 P.r, .int .i64 P.l, .int .i64 P.s, .int .i64 P.psi, .int .u64 (P.key : Int)] 27)
  have h1 := Holds.new w1 #[.int .i64 P.r, .int .i64 P.l, .int .i64 P.s, .int .i64 P.psi, .int .u64 (P.key : Int)] 27
  have H1 := Lib.hid (And.intro (HG0.out.trans ga) (And.intro h1 (And.intro (HH.out.gr0 ga) HG0.out.size)))
  rw [q0, q1, q2, q3, q5]
  rw [q0, q1, q2, q3, q5] at c0 c1 c2 c3 c5 HSm H1
  clear ga h1 q0 q1 q2 q3 q5 c0 c1 c2 c3 c4 c5 HG0 HH
  generalize (w1.alloc (Obj.cells #[.int .i64 P.r, .int .i64 P.l, .int .i64 P.s, .int .i64 P.psi, .int .u64 (P.key : Int)] 27)) = w2 at *
  obtain ⟨ab, hab⟩ : ∃ x, w1.heap.size = x := ⟨_, rfl⟩
  rw [hab] at H1 ⊢
  clear hab
  have c0 := H1.out.2.2.1.cell 0
  have c1 := H1.out.2.2.1.cell 1
  have c2 := H1.out.2.2.1.cell 2
  have c3 := H1.out.2.2.1.cell 3
  have c4 := H1.out.2.2.1.cell 4
  have c5 := H1.out.2.2.1.cell 5
  go_wp2_with fail
  refine (HSm.out _).mono ?_
  rintro e w3 ⟨rfl, g3⟩
  have H3 := Lib.hid (And.intro (H1.out.1.trans g3) (And.intro (H1.out.2.1.gr0 g3) (And.intro (H1.out.2.2.1.gr0 g3) H1.out.2.2.2)))
  clear g3 c0 c1 c2 c3 c4 c5 H1 HSm
  go_upto_region 3 with fail
  have ga := (Gr.refl [] w3).alloc (Obj.cells #[.int .i64 Q.r, .int .i64 Q.l, .int .i64 Q.s, .int .i64 Q.psi, .int .u64 (Q.key : Int)] 27)
  have h1 := Holds.new w3 #[.int .i64 Q.r, .int .i64 Q.l, .int .i64 Q.s, .int .i64 Q.psi, .int .u64 (Q.key : Int)] 27
  have H4 := Lib.hid (And.intro (H3.out.1.trans ga) (And.intro (H3.out.2.1.gr0 ga) (And.intro (H3.out.2.2.1.gr0 ga) (And.intro H3.out.2.2.2 h1))))
  clear ga h1 H3
  generalize (w3.alloc (Obj.cells #[.int .i64 Q.r, .int .i64 Q.l, .int .i64 Q.s, .int .i64 Q.psi, .int .u64 (Q.key : Int)] 27)) = w4 at *
  obtain ⟨bb, hbb⟩ : ∃ x, w3.heap.size = x := ⟨_, rfl⟩
  rw [hbb] at H4 ⊢
  clear hbb
  obtain ⟨c0, c1, c2, c3, c4⟩ := cfv10 H4.out.2.1
  obtain ⟨d0, d1, d2, d3, d4⟩ := cfv10 H4.out.2.2.2.2
  go_upto_region 4 with fail
  have ga := (Gr.refl [] w4).alloc (Obj.cells #[.int .i64 P.r, .int .i64 P.l, .int .i64 P.s, .int .i64 P.psi, .int .u64 (P.key : Int), .int .i64 Q.r, .int .i64 Q.l, .int .i64 Q.s, .int .i64 Q.psi, .int .u64 (Q.key : Int)] 27)
  have h1 := Holds.new w4 #[.int .i64 P.r, .int .i64 P.l, .int .i64 P.s, .int .i64 P.psi, .int .u64 (P.key : Int), .int .i64 Q.r, .int .i64 Q.l, .int .i64 Q.s, .int .i64 Q.psi, .int .u64 (Q.key : Int)] 27
  have H5 := Lib.hid (show Mk10 w pb w4.heap.size P Q x4 _ from ⟨H4.out.1.trans ga, H4.out.2.2.1.gr0 ga, h1⟩)
  have HCt := Lib.hid (fun (C : CfgZ) (h : wfC C) W => show Calls Tryz.prog 36 #[.agg #[.int .i64 C.r, .int .i64 C.l, .int .i64 C.s, .int .i64 C.psi, .int .u64 (C.key : Int)]] W _ from hcount_any C h W)
  have HRc := Lib.hid (fun (C : CfgZ) (h : wfC C) W => show Calls Tryz.prog 37 #[.agg #[.int .i64 C.r, .int .i64 C.l, .int .i64 C.s, .int .i64 C.psi, .int .u64 (C.key : Int)]] W _ from rcount_any C h W)
  have HMn := Lib.hid (fun (C : CfgZ) W => show Calls Tryz.prog 14 #[.pointer none, .agg #[.int .i64 C.r, .int .i64 C.l, .int .i64 C.s, .int .i64 C.psi, .int .u64 (C.key : Int)]] W _ from hmake_none C W)
  clear ga h1 H4 c0 c1 c2 c3 c4 d0 d1 d2 d3 d4
  generalize (w4.alloc (Obj.cells #[.int .i64 P.r, .int .i64 P.l, .int .i64 P.s, .int .i64 P.psi, .int .u64 (P.key : Int), .int .i64 Q.r, .int .i64 Q.l, .int .i64 Q.s, .int .i64 Q.psi, .int .u64 (Q.key : Int)] 27)) = w5 at *
  obtain ⟨sb, hsb⟩ : ∃ x, w4.heap.size = x := ⟨_, rfl⟩
  rw [hsb] at H5 ⊢
  clear hsb
  go_loopw [54] (fun z wr => (z = .int .i64 0 ∨ z = .int .i64 1 ∨ z = .int .i64 2) ∧ Hid (Mk10 w pb sb P Q x4 wr)) (fun z _ => 2 - (intOf z).toNat)
  case atStart => exact ⟨.inl rfl, H5⟩
  case round =>
    clear H5
    obtain ⟨rfl | rfl | rfl, HA⟩ := hrel
    · skip
      obtain ⟨i0, i1, i2, i3, i4⟩ := HA.out.at.1
      go_upto_region 6 with fail
      have ga := (Gr.refl [] wr).alloc (Obj.cells #[.int .i64 P.r, .int .i64 P.l, .int .i64 P.s, .int .i64 P.psi, .int .u64 (P.key : Int)] 27)
      have h1 := Holds.new wr #[.int .i64 P.r, .int .i64 P.l, .int .i64 P.s, .int .i64 P.psi, .int .u64 (P.key : Int)] 27
      have H5 := Lib.hid (And.intro (HA.out.next0 ga) h1)
      clear ga h1 i0 i1 i2 i3 i4 HA
      generalize (wr.alloc (Obj.cells #[.int .i64 P.r, .int .i64 P.l, .int .i64 P.s, .int .i64 P.psi, .int .u64 (P.key : Int)] 27)) = w5 at *
      obtain ⟨tb, htb⟩ : ∃ x, wr.heap.size = x := ⟨_, rfl⟩
      rw [htb] at H5 ⊢
      clear htb
      obtain ⟨c0, c1, c2, c3, c4⟩ := cfv10 H5.out.2
      go_wp2_with fail
      refine (HCt.out P HW.out.1 _).mono ?_
      rintro e w6 ⟨rfl, g6⟩
      have H6 := Lib.hid (And.intro (H5.out.1.next0 g6) (H5.out.2.gr0 g6))
      clear g6 c0 c1 c2 c3 c4 H5
      obtain ⟨c0, c1, c2, c3, c4⟩ := cfv10 H6.out.2
      go_wp2_with fail
      refine (HRc.out P HW.out.1 _).mono ?_
      rintro e w7 ⟨rfl, g7⟩
      have H7 := Lib.hid (And.intro (H6.out.1.next0 g7) (H6.out.2.gr0 g7))
      clear g7 c0 c1 c2 c3 c4 H6
      obtain ⟨c0, c1, c2, c3, c4⟩ := cfv10 H7.out.2
      go_wp2_with fail
      refine (HMn.out P _).mono ?_
      rintro e w8 ⟨rfl, g8⟩
      have H8 := Lib.hid (And.intro (H7.out.1.next0 g8) (H7.out.2.gr0 g8))
      clear g8 c0 c1 c2 c3 c4 H7
      go_wp2_with fail
      refine (pmnew_yes 8 _ (by omega) (by omega)).mono ?_
      rintro e w9 ⟨a, rfl, d9, hlo, g9⟩
      have H9 := Lib.hid (And.intro (show DevIs w9 a (newD 8) from d9) (And.intro (H8.out.1.next0 g9) (H8.out.2.gr0 g9)))
      clear d9 hlo g9 H8
      obtain ⟨c0, c1, c2, c3, c4⟩ := cfv10 H9.out.2.2
      by_cases hp : pgC P = 0
      · have HMk := Lib.hid (show Calls Tryz.prog 14 #[.pointer (some ⟨a.bd, 0, none⟩), .agg #[.int .i64 P.r, .int .i64 P.l, .int .i64 P.s, .int .i64 P.psi, .int .u64 (P.key : Int)]] w9 _ from hmake_zero P HW.out.1 hp a.bd w9)
        rw [hp, show ((0 : Nat) : Int) = 0 from rfl]
        clear hp
        go_wp2_with fail
        refine (HMk.out).mono ?_
        rintro e w10 ⟨rfl, g10⟩
        have H10 := Lib.hid (And.intro (H9.out.1.gr0 g10) (And.intro (H9.out.2.1.next0 g10) (H9.out.2.2.gr0 g10)))
        clear g10 c0 c1 c2 c3 c4 H9 HMk
        go_wp2_with fail
        refine (count_any a (newD 8) _ H10.out.1).mono ?_
        rintro e w11 ⟨rfl, rfl⟩
        go_wp2_with fail
        go_roundw
        case rel => exact ⟨.inr (.inl rfl), Lib.hid H10.out.2.1⟩
        case measure => simp [intOf]
      · have hp1 : 0 < pgC P := by omega
        have hck := pg_large hp1
        have HMk := Lib.hid (show Calls Tryz.prog 14 #[.pointer (some ⟨a.bd, 0, none⟩), .agg #[.int .i64 P.r, .int .i64 P.l, .int .i64 P.s, .int .i64 P.psi, .int .u64 (P.key : Int)]] w9 (fun e w' => e = .returned (.int .i64 3) ∧ Gr [] w9 w') from by
          have := hmake_err H9.out.1 P HW.out.1 hp1 (by show checkC P 8 ≠ 0; rw [hck]; decide)
          rw [show checkC P ((newD 8).n : Int) = 3 from hck] at this
          exact this)
        have HRk := Lib.hid (fun W => show Calls Tryz.prog 38 #[.agg #[.int .i64 P.r, .int .i64 P.l, .int .i64 P.s, .int .i64 P.psi, .int .u64 (P.key : Int)], .int .i64 8] W (fun e w' => e = .returned (.int .i64 3) ∧ Gr [] W w') from by
          have := rcheck9 P 8 W
          rw [hck] at this
          exact this)
        obtain ⟨G, hG⟩ : ∃ G, G = pgC P := ⟨_, rfl⟩
        rw [← hG]
        have hG0 : ¬ (G : Int) = 0 := by omega
        have hG1 : (0 : Int) < (G : Int) := by omega
        have hG0b : ((G : Int) == 0) = false := by simp; omega
        clear hp hp1 hck hG
        go_wp2_with fail
        refine (HMk.out).mono ?_
        rintro e w10 ⟨rfl, g10⟩
        have H10 := Lib.hid (And.intro (H9.out.1.gr0 g10) (And.intro (H9.out.2.1.next0 g10) (H9.out.2.2.gr0 g10)))
        clear g10 c0 c1 c2 c3 c4 H9 HMk
        obtain ⟨c0, c1, c2, c3, c4⟩ := cfv10 H10.out.2.2
        go_wp2_with fail
        refine (HRk.out _).mono ?_
        rintro e w11 ⟨rfl, g11⟩
        have H11 := Lib.hid (And.intro (H10.out.1.gr0 g11) (H10.out.2.1.next0 g11))
        clear g11 c0 c1 c2 c3 c4 H10 HRk
        go_wp2_with fail
        refine (count_any a (newD 8) _ H11.out.1).mono ?_
        rintro e w12 ⟨rfl, rfl⟩
        go_wp2_with fail
        go_roundw
        case rel => exact ⟨.inr (.inl rfl), Lib.hid H11.out.2⟩
        case measure => simp [intOf]
    · skip
      obtain ⟨i0, i1, i2, i3, i4⟩ := HA.out.at.2
      go_upto_region 6 with fail
      have ga := (Gr.refl [] wr).alloc (Obj.cells #[.int .i64 Q.r, .int .i64 Q.l, .int .i64 Q.s, .int .i64 Q.psi, .int .u64 (Q.key : Int)] 27)
      have h1 := Holds.new wr #[.int .i64 Q.r, .int .i64 Q.l, .int .i64 Q.s, .int .i64 Q.psi, .int .u64 (Q.key : Int)] 27
      have H5 := Lib.hid (And.intro (HA.out.next0 ga) h1)
      clear ga h1 i0 i1 i2 i3 i4 HA
      generalize (wr.alloc (Obj.cells #[.int .i64 Q.r, .int .i64 Q.l, .int .i64 Q.s, .int .i64 Q.psi, .int .u64 (Q.key : Int)] 27)) = w5 at *
      obtain ⟨tb, htb⟩ : ∃ x, wr.heap.size = x := ⟨_, rfl⟩
      rw [htb] at H5 ⊢
      clear htb
      obtain ⟨c0, c1, c2, c3, c4⟩ := cfv10 H5.out.2
      go_wp2_with fail
      refine (HCt.out Q HW.out.2 _).mono ?_
      rintro e w6 ⟨rfl, g6⟩
      have H6 := Lib.hid (And.intro (H5.out.1.next0 g6) (H5.out.2.gr0 g6))
      clear g6 c0 c1 c2 c3 c4 H5
      obtain ⟨c0, c1, c2, c3, c4⟩ := cfv10 H6.out.2
      go_wp2_with fail
      refine (HRc.out Q HW.out.2 _).mono ?_
      rintro e w7 ⟨rfl, g7⟩
      have H7 := Lib.hid (And.intro (H6.out.1.next0 g7) (H6.out.2.gr0 g7))
      clear g7 c0 c1 c2 c3 c4 H6
      obtain ⟨c0, c1, c2, c3, c4⟩ := cfv10 H7.out.2
      go_wp2_with fail
      refine (HMn.out Q _).mono ?_
      rintro e w8 ⟨rfl, g8⟩
      have H8 := Lib.hid (And.intro (H7.out.1.next0 g8) (H7.out.2.gr0 g8))
      clear g8 c0 c1 c2 c3 c4 H7
      go_wp2_with fail
      refine (pmnew_yes 8 _ (by omega) (by omega)).mono ?_
      rintro e w9 ⟨a, rfl, d9, hlo, g9⟩
      have H9 := Lib.hid (And.intro (show DevIs w9 a (newD 8) from d9) (And.intro (H8.out.1.next0 g9) (H8.out.2.gr0 g9)))
      clear d9 hlo g9 H8
      obtain ⟨c0, c1, c2, c3, c4⟩ := cfv10 H9.out.2.2
      by_cases hp : pgC Q = 0
      · have HMk := Lib.hid (show Calls Tryz.prog 14 #[.pointer (some ⟨a.bd, 0, none⟩), .agg #[.int .i64 Q.r, .int .i64 Q.l, .int .i64 Q.s, .int .i64 Q.psi, .int .u64 (Q.key : Int)]] w9 _ from hmake_zero Q HW.out.2 hp a.bd w9)
        rw [hp, show ((0 : Nat) : Int) = 0 from rfl]
        clear hp
        go_wp2_with fail
        refine (HMk.out).mono ?_
        rintro e w10 ⟨rfl, g10⟩
        have H10 := Lib.hid (And.intro (H9.out.1.gr0 g10) (And.intro (H9.out.2.1.next0 g10) (H9.out.2.2.gr0 g10)))
        clear g10 c0 c1 c2 c3 c4 H9 HMk
        go_wp2_with fail
        refine (count_any a (newD 8) _ H10.out.1).mono ?_
        rintro e w11 ⟨rfl, rfl⟩
        go_wp2_with fail
        go_roundw
        case rel => exact ⟨.inr (.inr rfl), Lib.hid H10.out.2.1⟩
        case measure => simp [intOf]
      · have hp1 : 0 < pgC Q := by omega
        have hck := pg_large hp1
        have HMk := Lib.hid (show Calls Tryz.prog 14 #[.pointer (some ⟨a.bd, 0, none⟩), .agg #[.int .i64 Q.r, .int .i64 Q.l, .int .i64 Q.s, .int .i64 Q.psi, .int .u64 (Q.key : Int)]] w9 (fun e w' => e = .returned (.int .i64 3) ∧ Gr [] w9 w') from by
          have := hmake_err H9.out.1 Q HW.out.2 hp1 (by show checkC Q 8 ≠ 0; rw [hck]; decide)
          rw [show checkC Q ((newD 8).n : Int) = 3 from hck] at this
          exact this)
        have HRk := Lib.hid (fun W => show Calls Tryz.prog 38 #[.agg #[.int .i64 Q.r, .int .i64 Q.l, .int .i64 Q.s, .int .i64 Q.psi, .int .u64 (Q.key : Int)], .int .i64 8] W (fun e w' => e = .returned (.int .i64 3) ∧ Gr [] W w') from by
          have := rcheck9 Q 8 W
          rw [hck] at this
          exact this)
        obtain ⟨G, hG⟩ : ∃ G, G = pgC Q := ⟨_, rfl⟩
        rw [← hG]
        have hG0 : ¬ (G : Int) = 0 := by omega
        have hG1 : (0 : Int) < (G : Int) := by omega
        have hG0b : ((G : Int) == 0) = false := by simp; omega
        clear hp hp1 hck hG
        go_wp2_with fail
        refine (HMk.out).mono ?_
        rintro e w10 ⟨rfl, g10⟩
        have H10 := Lib.hid (And.intro (H9.out.1.gr0 g10) (And.intro (H9.out.2.1.next0 g10) (H9.out.2.2.gr0 g10)))
        clear g10 c0 c1 c2 c3 c4 H9 HMk
        obtain ⟨c0, c1, c2, c3, c4⟩ := cfv10 H10.out.2.2
        go_wp2_with fail
        refine (HRk.out _).mono ?_
        rintro e w11 ⟨rfl, g11⟩
        have H11 := Lib.hid (And.intro (H10.out.1.gr0 g11) (H10.out.2.1.next0 g11))
        clear g11 c0 c1 c2 c3 c4 H10 HRk
        go_wp2_with fail
        refine (count_any a (newD 8) _ H11.out.1).mono ?_
        rintro e w12 ⟨rfl, rfl⟩
        go_wp2_with fail
        go_roundw
        case rel => exact ⟨.inr (.inr rfl), Lib.hid H11.out.2⟩
        case measure => simp [intOf]
    · skip
      go_wp2_with fail
      refine (pmnew_yes 60 _ (by omega) (by omega)).mono ?_
      rintro e w6 ⟨a, rfl, d6, hlo, g6⟩
      have H6 := Lib.hid (And.intro (show DevIs w6 a (newD 60) from d6) (HA.out.next0 g6))
      clear d6 hlo g6 HA
      go_wp2_with fail
      refine (hopen_none l1 _).mono ?_
      rintro e w7 ⟨rfl, rfl⟩
      obtain ⟨m, hm⟩ : ∃ m : Int, m = if x4 < 0 then x4 else 0 := ⟨_, rfl⟩
      have hm1 : m < 1 := by rw [hm]; split <;> omega
      have hmn : ∀ (ts : Array TypeId) (t : TypeId) (w : World), (Builtin.min_ ts t #[.int .i64 0, .int .i64 x4]).run Tryz.prog w = .ok (.int .i64 m) w := fun ts t w => by rw [run_min_int2, hm]
      have c4 := H6.out.2.bx.cell 4
      clear hm
      go_wp2_with fail
      refine (hopen_cold m hm1 _).mono ?_
      rintro e w8 ⟨rfl, rfl⟩
      clear hmn c4 hm1
      go_wp2_with fail
      refine (hopen_blank H6.out.1 l1 HL1.out).mono ?_
      rintro e w9 ⟨rfl, g9⟩
      have H9 := Lib.hid (H6.out.2.next0 g9)
      clear g9 H6
      go_wp2_with fail
      refine (hframe_nil g _).mono ?_
      rintro e w10 ⟨rfl, rfl⟩
      go_wp2_with fail
      refine (hread_nil g k _).mono ?_
      rintro e w11 ⟨rfl, rfl⟩
      go_wp2_with fail
      refine (hwrite_nil g k _ _).mono ?_
      rintro e w12 ⟨rfl, g12⟩
      have H12 := Lib.hid (H9.out.gr.trans g12)
      clear g12 H9
      go_wp2_with fail
      refine (hww_nil g k 9 1 _).mono ?_
      rintro e w13 ⟨rfl, g13⟩
      have H13 := Lib.hid (H12.out.trans g13)
      clear g13 H12
      go_wp2_with fail
      refine (wakes10 _).mono ?_
      rintro e w14 ⟨rfl, g14⟩
      have H14 := Lib.hid (H13.out.trans g14)
      clear g14 H13
      go_wp2_with fail
      refine (hlen_nil _).mono ?_
      rintro e w15 ⟨rfl, rfl⟩
      go_wp2_with fail
      refine (hflat_nil _).mono ?_
      rintro e w16 ⟨rfl, rfl⟩
      go_wp2_with fail
      refine (hheat_nil g _).mono ?_
      rintro e w17 ⟨rfl, rfl⟩
      go_wp2_with fail
      refine (hmoved_nil g _).mono ?_
      rintro e w18 ⟨rfl, rfl⟩
      go_wp2_with fail
      go_ret
      exact ⟨rfl, H14.out⟩
theorem walk_HotMakes (x0 x1 x2 x3 x4 : Int) (x5 : Nat) (g k : Int) {w : World} (hx : CfgB6 x0 x1 x2 x3 x4 x5) (_hn : (Lit.int .i64 g).wf = true) (_hl : (Lit.int .i64 k).wf = true) :
    Calls Tryz.prog 4 #[.agg #[.int .i64 x0, .int .i64 x1, .int .i64 x2, .int .i64 x3, .int .i64 x4, .int .u64 (x5 : Int)], .int .i64 g, .int .i64 k] w fun e w' => e = .returned (.bool true) ∧ Below w.heap.size w w' :=
  (hmakes_law x0 x1 x2 x3 x4 x5 g k hx).mono fun _ _ q => ⟨q.1, q.2.below0⟩
end Go.Proofs.YtefmbchebobceaaGreat
